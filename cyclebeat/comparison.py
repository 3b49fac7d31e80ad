"""Compares trees in all cycles."""

from math import lcm

from cyclebeat.formatter import format_unit
from cyclebeat.fraction import lowest
from cyclebeat.table import LONGEST_TABLE, find_bound, list_cycles
from cyclebeat.timeline import fitting_grid


def common_bound(first, second):
    """Return a number of cycles after which the events of both trees repeat."""
    return lcm(find_bound(first), find_bound(second))


def find_difference(first, second):
    """Return (cycle, offset, length, word, number) of the first event that differs, or None."""
    bound = common_bound(first, second)
    grid = lcm(fitting_grid(first), fitting_grid(second))
    start = 0
    while start < bound:
        # Most trees that differ do so in an early cycle, so that few cycles are compared first, and then ever more.
        end = min(2 * start + 1, bound)
        found = _compare_cycles(first, second, start, end, grid)
        if found is not None:
            return found
        start = end
    return None


def are_alike(first, second):
    """Return whether two trees have the same text, or a table can show that they have the same events for ever."""
    if format_unit(first) == format_unit(second):
        return True
    return common_bound(first, second) <= LONGEST_TABLE and find_difference(first, second) is None


def _compare_cycles(first, second, start, end, grid):
    ours = list_cycles(first, start, end, grid)
    theirs = list_cycles(second, start, end, grid)
    for at in range(end - start):
        found = _first_surplus(ours[at], theirs[at])
        if found is not None:
            offset, length, word, number = found
            return (start + at, lowest(offset, grid), lowest(length, grid), word, number)
    return None


def _first_surplus(ours, theirs):
    """Return the smallest event that one of two sorted lists has more often, and the list's number, or None."""
    for event, other in zip(ours, theirs):
        if event != other:
            return (*event, 0) if event < other else (*other, 1)
    if len(ours) > len(theirs):
        return (*ours[len(theirs)], 0)
    if len(theirs) > len(ours):
        return (*theirs[len(ours)], 1)
    return None
