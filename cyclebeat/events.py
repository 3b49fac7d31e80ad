"""The events of patterns."""

from cyclebeat.errors import InvalidCycle, InvalidTime
from cyclebeat.moments import is_cycle, is_time
from cyclebeat.reader import read_pattern
from cyclebeat.table import as_fractions, list_cycle
from cyclebeat.timeline import fitting_grid, touching_events

LONGEST_WINDOW = 20


def cycle_events(pattern, cycle):
    """Return the sorted (offset, length, word) of all events that start in a cycle."""
    unit = read_pattern(pattern)
    if not is_cycle(cycle):
        raise InvalidCycle("the cycle is not an integer from 0 to 10 ** 18")
    return list_cycle(unit, cycle)


def window_events(pattern, start, end):
    """Return the sorted (time, length, word) of all events that start from one time on and before another one."""
    unit = read_pattern(pattern)
    _check_time(start)
    _check_time(end)
    if not _is_window(start, end):
        raise InvalidTime("the window ends before it starts, or is too long")
    grid = fitting_grid(unit)
    events = touching_events(unit, start[0] // start[1], end[0] // end[1] + 1, grid)
    return as_fractions(sorted([event for event in events if _is_within(event[0], grid, start, end)]), grid)


def sounding_events(pattern, time):
    """Return the sorted (time, length, word) of all events that start at or before a time and end after it."""
    unit = read_pattern(pattern)
    _check_time(time)
    grid = fitting_grid(unit)
    cycle = time[0] // time[1]
    events = touching_events(unit, cycle, cycle + 1, grid)
    return as_fractions(sorted([event for event in events if _is_sounding(event, grid, time)]), grid)


def _check_time(time):
    if not is_time(time):
        raise InvalidTime("the time is not a fraction from 0 to 10 ** 18")


def _is_window(start, end):
    """Return whether a window is neither reversed nor too long."""
    length = end[0] * start[1] - start[0] * end[1]
    return 0 <= length <= LONGEST_WINDOW * start[1] * end[1]


def _is_within(step, grid, start, end):
    return step * start[1] >= start[0] * grid and step * end[1] < end[0] * grid


def _is_sounding(event, grid, time):
    begin, length, _ = event
    now = time[0] * grid
    return begin * time[1] <= now < (begin + length) * time[1]
