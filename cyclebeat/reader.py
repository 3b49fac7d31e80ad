"""Reads patterns as callers pass them."""

from cyclebeat.checker import check_tokens, check_weight
from cyclebeat.errors import SyntaxFault
from cyclebeat.parser import parse_tokens
from cyclebeat.tokens import split_tokens


def read_pattern(pattern):
    """Return the tree of a valid pattern, else raise SyntaxFault or CheckFault."""
    if not isinstance(pattern, str):
        raise SyntaxFault(0)
    tokens = split_tokens(pattern)
    unit = parse_tokens(tokens)
    check_tokens(tokens)
    check_weight(unit)
    return unit
