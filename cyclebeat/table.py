"""Tables: the sorted events of each of some cycles, on a grid (see timeline.py), and how many cycles they must have."""

from math import gcd, lcm

from cyclebeat.fraction import lowest
from cyclebeat.timeline import fitting_grid, touching_events

LONGEST_TABLE = 1000


def find_bound(unit):
    """Return a number of cycles after which the events of a tree repeat; it need not be the smallest one."""
    bound = 1
    for part in unit.parts:
        bound = lcm(bound, find_bound(part))
    if unit.kind == "{":
        bound = bound * len(unit.parts)
    elif unit.kind == "each":
        bound = lcm(bound, unit.numbers[0])
    for sign, number in unit.tempos:
        if sign == "^":
            bound = bound // gcd(bound, number)
        else:
            bound = bound * number
    return bound


def list_cycles(unit, first, last, grid):
    """Return the sorted (offset, length, word) of each cycle from the first one on and before the last one."""
    rows = [[] for _ in range(first, last)]
    for start, length, word in sorted(touching_events(unit, first, last, grid)):
        cycle, offset = divmod(start, grid)
        if cycle >= first:
            rows[cycle - first].append((offset, length, word))
    return rows


def as_fractions(events, grid):
    """Return events on a grid with fractions, in the same order."""
    return [(lowest(start, grid), lowest(length, grid), word) for start, length, word in events]


def list_cycle(unit, cycle):
    """Return the sorted (offset, length, word) of a single cycle, with fractions."""
    grid = fitting_grid(unit)
    return as_fractions(list_cycles(unit, cycle, cycle + 1, grid)[0], grid)
