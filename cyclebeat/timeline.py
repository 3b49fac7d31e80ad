"""Computes the events of a tree with integers only.

A grid is a number of equal steps into which every cycle is divided. On a grid that fits a tree, all its events are
tuples (start, length, word) of whole steps. Events touch the cycles from `first` on and before `last` if they last at
some time within them. They may have started long before, so that the functions look for touching events, not for
starts: what touches some cycles of a pattern comes from few cycles of its items, however long its events last.
"""

from math import lcm

from cyclebeat.tree import speed


def fitting_grid(unit):
    """Return a grid that fits a tree; every multiple of it fits, too."""
    grid = 1
    for part in unit.parts:
        grid = lcm(grid, fitting_grid(part))
    if unit.kind == "(":
        grid = grid * len(unit.parts)
    elif unit.kind == "late":
        grid = lcm(grid, unit.numbers[1])
    fast, _ = speed(unit)
    return grid * fast


def touching_events(unit, first, last, grid):
    """Return all events of a tree that touch some cycles, on a grid that fits the tree, in no special order."""
    fast, slow = speed(unit)
    low = first * fast // slow
    high = -(-last * fast // slow)
    rule = RULES[unit.kind]
    events = rule(unit, low, high, grid // fast)
    stretched = [(start * slow, length * slow, word) for start, length, word in events]
    return [event for event in stretched if event[0] < last * grid and event[0] + event[1] > first * grid]


# Each rule below returns at least the events of a unit that touch the cycles, without regard to its `^` and `:`.
# It may return others of the unit, too, as touching_events drops them.


def _word_rule(unit, first, last, grid):
    return [(cycle * grid, grid, unit.word) for cycle in range(first, last)]


def _rest_rule(unit, first, last, grid):
    return []


def _sequence_rule(unit, first, last, grid):
    inner = grid // len(unit.parts)
    events = []
    for at, part in enumerate(unit.parts):
        for start, length, word in touching_events(part, first, last, inner):
            cycle, offset = divmod(start, inner)
            events.append((cycle * grid + at * inner + offset, length, word))
    return events


def _stack_rule(unit, first, last, grid):
    return [event for part in unit.parts for event in touching_events(part, first, last, grid)]


def _turn_rule(unit, first, last, grid):
    many = len(unit.parts)
    events = []
    for at, part in enumerate(unit.parts):
        low = (first - at) // many
        high = (last - 1 - at) // many + 1
        for start, length, word in touching_events(part, low, high, grid):
            cycle, offset = divmod(start, grid)
            events.append(((cycle * many + at) * grid + offset, length, word))
    return events


def _late_rule(unit, first, last, grid):
    shift = grid * unit.numbers[0] // unit.numbers[1]
    events = touching_events(unit.parts[0], first - 1, last, grid)
    return [(start + shift, length, word) for start, length, word in events]


def _mirror_rule(unit, first, last, grid):
    events = []
    for start, length, word in touching_events(unit.parts[0], first, last, grid):
        cycle, offset = divmod(start, grid)
        events.append((cycle * grid + (grid - offset - length) % grid, length, word))
    return events


def _each_rule(unit, first, last, grid):
    every = unit.numbers[0]
    chosen = touching_events(unit.parts[0], first, last, grid)
    others = touching_events(unit.parts[1], first, last, grid)
    events = [event for event in chosen if event[0] // grid % every == 0]
    return events + [event for event in others if event[0] // grid % every != 0]


RULES = {
    "word": _word_rule,
    "_": _rest_rule,
    "(": _sequence_rule,
    "[": _stack_rule,
    "{": _turn_rule,
    "late": _late_rule,
    "mirror": _mirror_rule,
    "each": _each_rule,
}
