"""Fractions: tuples (numerator, denominator) in lowest terms with a positive denominator."""

from math import gcd


def lowest(numerator, denominator):
    """Return a fraction in lowest terms; the denominator passed is positive."""
    common = gcd(numerator, denominator)
    return (numerator // common, denominator // common)


def is_whole(value):
    """Return whether a value is an integer; True and False are none here."""
    return isinstance(value, int) and not isinstance(value, bool)


def is_fraction(value):
    """Return whether any value is a fraction in lowest terms."""
    if not isinstance(value, tuple) or len(value) != 2:
        return False
    numerator, denominator = value
    if not is_whole(numerator) or not is_whole(denominator):
        return False
    return denominator > 0 and gcd(numerator, denominator) == 1
