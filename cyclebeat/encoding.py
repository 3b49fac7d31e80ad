"""Patterns as lists of bytes."""

from cyclebeat.checker import LARGEST_DIVISOR, LARGEST_NUMBER, MOST_UNITS
from cyclebeat.errors import InvalidCode
from cyclebeat.formatter import format_pattern, format_unit
from cyclebeat.fraction import is_whole, lowest
from cyclebeat.reader import read_pattern
from cyclebeat.tokens import KEYWORDS, LETTERS, LONGEST_WORD
from cyclebeat.tree import Unit

FIRST_BYTE = 67
# The place of a kind of unit, or of a `^` or `:`, is its code.
KINDS = ("_", "word", "(", "[", "{", "^", ":", "late", "mirror", "each")


class ByteCursor:
    """Goes through a list of bytes from left to right."""

    def __init__(self, code):
        self.code = code
        self.at = 0

    def take(self, least, greatest):
        """Go over the next byte, which must be within these limits, and return it."""
        if self.at == len(self.code):
            raise InvalidCode(self.at)
        byte = self.code[self.at]
        if not is_whole(byte) or not least <= byte <= greatest:
            raise InvalidCode(self.at)
        self.at += 1
        return byte

    def finish(self):
        """Go over the checksum, which must be the last byte."""
        checksum = _checksum(self.code[:self.at])
        self.take(checksum, checksum)
        if self.at < len(self.code):
            raise InvalidCode(self.at)


def encode(pattern):
    """Return the bytes of a pattern, a list of integers."""
    code = [FIRST_BYTE] + _encode_unit(read_pattern(pattern))
    return code + [_checksum(code)]


def decode(code):
    """Return the canonical pattern of a list of bytes."""
    if not isinstance(code, list):
        raise InvalidCode(0)
    cursor = ByteCursor(code)
    cursor.take(FIRST_BYTE, FIRST_BYTE)
    unit = _decode_unit(cursor)
    cursor.finish()
    # Formatting the canonical text once more raises CheckFault with the places in it.
    return format_pattern(format_unit(unit))


def _checksum(code):
    return sum(code) % 256


def _encode_unit(unit):
    code = []
    # The last `^` or `:` is the outermost one: the pattern before it contains all others.
    for sign, number in reversed(unit.tempos):
        code.extend([KINDS.index(sign), number])
    code.append(KINDS.index(unit.kind))
    code.extend(_encode_details(unit))
    for part in unit.parts:
        code.extend(_encode_unit(part))
    return code


def _encode_details(unit):
    """Return the bytes between the code of a unit and its items."""
    if unit.kind == "word":
        return [len(unit.word)] + [LETTERS.index(letter) for letter in unit.word]
    if unit.kind in ("(", "[", "{"):
        return [len(unit.parts)]
    if unit.kind == "late":
        return list(lowest(unit.numbers[0], unit.numbers[1]))
    return list(unit.numbers)


def _decode_unit(cursor):
    tempos = []
    kind = _take_kind(cursor)
    while kind in ("^", ":"):
        tempos.append((kind, cursor.take(1, LARGEST_NUMBER)))
        kind = _take_kind(cursor)
    word = _decode_word(cursor) if kind == "word" else ""
    many = _decode_size(cursor, kind)
    numbers = _decode_numbers(cursor, kind)
    parts = [_decode_unit(cursor) for _ in range(many)]
    return Unit(kind, word=word, numbers=numbers, parts=parts, tempos=tempos[::-1])


def _take_kind(cursor):
    return KINDS[cursor.take(0, len(KINDS) - 1)]


def _decode_word(cursor):
    place = cursor.at
    length = cursor.take(1, LONGEST_WORD)
    word = "".join([LETTERS[cursor.take(0, len(LETTERS) - 1)] for _ in range(length)])
    if word in KEYWORDS:
        raise InvalidCode(place)
    return word


def _decode_size(cursor, kind):
    """Return the number of items of a unit; only brackets have a byte for it."""
    if kind in ("(", "[", "{"):
        return cursor.take(1, MOST_UNITS)
    if kind == "each":
        return 2
    return 1 if kind in KEYWORDS else 0


def _decode_numbers(cursor, kind):
    if kind == "late":
        shift = cursor.take(0, LARGEST_DIVISOR - 1)
        return (shift, cursor.take(shift + 1, LARGEST_DIVISOR))
    if kind == "each":
        return (cursor.take(1, LARGEST_NUMBER),)
    return ()
