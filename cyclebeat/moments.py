"""Which cycles, times and offsets callers may pass."""

from cyclebeat.checker import LARGEST_DIVISOR
from cyclebeat.fraction import is_fraction, is_whole

LATEST = 10 ** 18


def is_cycle(value):
    """Return whether any value is a cycle that may be asked for."""
    return is_whole(value) and 0 <= value <= LATEST


def is_time(value):
    """Return whether any value is a time that may be asked for."""
    if not is_fraction(value):
        return False
    numerator, denominator = value
    return 0 <= numerator <= LATEST * denominator


def is_offset(value):
    """Return whether any value is a part of a cycle by which something may be shifted."""
    return is_fraction(value) and 0 <= value[0] < value[1] <= LARGEST_DIVISOR
