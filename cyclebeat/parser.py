"""Reads the tokens of a pattern as a tree."""

from cyclebeat.errors import SyntaxFault
from cyclebeat.tokens import KEYWORDS, is_number, is_word
from cyclebeat.tree import Unit

CLOSING = {"(": ")", "[": "]", "{": "}"}


class Cursor:
    """Goes through tokens from left to right."""

    def __init__(self, tokens):
        self.tokens = tokens
        self.at = 0

    def peek(self):
        """Return the text of the next token."""
        return self.tokens[self.at][0]

    def here(self):
        """Return the place of the next token."""
        return self.tokens[self.at][1]

    def skip(self):
        """Go over the next token."""
        self.at += 1

    def expect(self, text):
        """Go over the next token, which must have this text."""
        if self.peek() != text:
            raise SyntaxFault(self.here())
        self.skip()

    def take_number(self):
        """Go over the next token, which must be a number, and return the number."""
        text = self.peek()
        if not is_number(text):
            raise SyntaxFault(self.here())
        self.skip()
        return int(text)


def parse_tokens(tokens):
    """Return the tree of the tokens of a pattern."""
    cursor = Cursor(tokens)
    # The open units are a list, no recursion, so that deep nesting is read as any other text.
    opened = []
    while True:
        unit = _read_head(cursor)
        if unit.kind in ("word", "_"):
            whole = _read_rest(cursor, opened, unit)
            if whole is not None:
                return whole
        else:
            opened.append(unit)


def _read_head(cursor):
    """Read a unit as far as its first item begins: a word and `_` have none."""
    text = cursor.peek()
    if is_word(text):
        cursor.skip()
        return Unit("word", word=text)
    if text == "_" or text in CLOSING:
        cursor.skip()
        return Unit(text)
    if text in KEYWORDS:
        cursor.skip()
        cursor.expect("(")
        return Unit(text, numbers=_read_numbers(cursor, text))
    raise SyntaxFault(cursor.here())


def _read_numbers(cursor, keyword):
    if keyword == "mirror":
        return ()
    number = cursor.take_number()
    if keyword == "each":
        cursor.expect(",")
        return (number,)
    cursor.expect("/")
    divisor = cursor.take_number()
    cursor.expect(",")
    return (number, divisor)


def _read_rest(cursor, opened, unit):
    """Read on behind the last item of a unit, until a next item begins (None) or the pattern ends (its tree)."""
    while True:
        _read_tempos(cursor, unit)
        if not opened:
            cursor.expect("")
            return unit
        opened[-1].parts.append(unit)
        if not _read_end(cursor, opened[-1]):
            return None
        unit = opened.pop()


def _read_tempos(cursor, unit):
    while cursor.peek() in ("^", ":"):
        sign = cursor.peek()
        cursor.skip()
        unit.tempos.append((sign, cursor.take_number()))


def _read_end(cursor, unit):
    """Read what follows an item of a unit, and return whether this was the end of the unit."""
    if unit.kind == "each" and len(unit.parts) == 1:
        cursor.expect(",")
        return False
    if unit.kind in KEYWORDS:
        cursor.expect(")")
        return True
    if cursor.peek() == CLOSING[unit.kind]:
        cursor.skip()
        return True
    if unit.kind == "[":
        cursor.expect("+")
    return False
