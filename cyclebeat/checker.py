"""Checks the limits of patterns that fit the grammar."""

from cyclebeat.errors import CheckFault
from cyclebeat.tokens import KEYWORDS, is_number, is_word
from cyclebeat.tree import weigh

MOST_UNITS = 60
MOST_AROUND = 11
LARGEST_NUMBER = 16
LARGEST_DIVISOR = 64
GREATEST_WEIGHT = 500


def check_tokens(tokens):
    """Raise CheckFault for the first number, depth or size beyond its limit.

    This goes by the tokens, because they are in the order of the places.
    """
    around = 0
    units = 0
    for at, (text, place) in enumerate(tokens):
        if _starts_unit(tokens, at):
            units += 1
            if units > MOST_UNITS:
                raise CheckFault("size", place)
            if around > MOST_AROUND:
                raise CheckFault("depth", place)
        if is_number(text) and not _is_number_allowed(tokens, at):
            raise CheckFault("number", place)
        if text in ("(", "[", "{"):
            around += 1
        elif text in (")", "]", "}"):
            around -= 1


def check_weight(unit):
    """Raise CheckFault if a tree has too many events."""
    if weigh(unit) > GREATEST_WEIGHT:
        raise CheckFault("events", 0)


def _starts_unit(tokens, at):
    text, _ = tokens[at]
    if text == "(":
        return at == 0 or tokens[at - 1][0] not in KEYWORDS
    return is_word(text) or text in KEYWORDS or text in ("_", "[", "{")


def _is_number_allowed(tokens, at):
    """Return whether a number is allowed; the second one of a `late` is checked with the first one."""
    number = int(tokens[at][0])
    before, _ = tokens[at - 1]
    if before == "/":
        return True
    if tokens[at - 2][0] == "late":
        return number < int(tokens[at + 2][0]) <= LARGEST_DIVISOR
    return 1 <= number <= LARGEST_NUMBER
