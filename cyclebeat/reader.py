"""Reads patterns as callers pass them."""

from cyclebeat.checker import check_tokens, check_weight
from cyclebeat.errors import SyntaxFault
from cyclebeat.parser import parse_tokens
from cyclebeat.tokens import split_tokens


def read_pattern(pattern):
    """Return the tree of a valid pattern, else raise SyntaxFault or CheckFault."""
    return read_patterns([pattern])[0]


def read_patterns(patterns):
    """Return the trees of valid patterns, else raise SyntaxFault or CheckFault for the first invalid one.

    The interface lists SyntaxFault before CheckFault: all patterns are parsed before any is checked.
    """
    parsed = []
    for pattern in patterns:
        tokens = _split_string(pattern)
        parsed.append((tokens, parse_tokens(tokens)))
    for tokens, unit in parsed:
        check_tokens(tokens)
        check_weight(unit)
    return [unit for _, unit in parsed]


def _split_string(pattern):
    if not isinstance(pattern, str):
        raise SyntaxFault(0)
    return split_tokens(pattern)
