"""Builds patterns from events."""

from cyclebeat.checker import LARGEST_NUMBER
from cyclebeat.errors import InvalidEvents
from cyclebeat.formatter import format_unit
from cyclebeat.fraction import is_fraction
from cyclebeat.moments import is_offset
from cyclebeat.simplifier import simplify_unit
from cyclebeat.tokens import is_free_word
from cyclebeat.tree import Unit, count_units

MOST_CYCLES = 16


def build_pattern(cycles):
    """Return a pattern with the events of the cycles of a list, one after another and again from the first one on."""
    _check_cycles(cycles)
    return format_unit(_in_turn([_cycle_unit(cycle) for cycle in cycles]))


def _check_cycles(cycles):
    if not isinstance(cycles, list) or not cycles:
        raise InvalidEvents(0)
    for place, cycle in enumerate(cycles):
        if place == MOST_CYCLES or not _is_valid_cycle(cycle):
            raise InvalidEvents(place)


def _is_valid_cycle(cycle):
    return isinstance(cycle, list) and all([_is_event(item) for item in cycle])


def _is_event(item):
    if not isinstance(item, tuple) or len(item) != 3:
        return False
    offset, length, word = item
    return is_offset(offset) and _is_length(length) and is_free_word(word)


def _is_length(value):
    return is_fraction(value) and value[0] == 1 and value[1] <= LARGEST_NUMBER


def _cycle_unit(cycle):
    return simplify_unit(Unit("[", parts=[_event_unit(offset, length[1], word) for offset, length, word in cycle]))


def _event_unit(offset, many, word):
    """Return a tree with one event in each cycle, which is as long as one of many equal parts of the cycle."""
    # It has the events of `( )` with the word and rests, but only three units, however many these parts are.
    part = Unit("each", numbers=(many,), parts=[Unit("word", word=word), Unit("_")], tempos=[("^", many)])
    return Unit("late", numbers=offset, parts=[part])


def _in_turn(units):
    """Return a small tree that has the events of trees in turn, each of which has the same events in all cycles.

    A pattern has room for sixty units. As there are at most sixteen trees, all even divisions of turns are tried.
    """
    many = len(units)
    found = [Unit("{", parts=[_in_turn(units[at::step]) for at in range(step)])
             for step in range(2, many + 1) if many % step == 0]
    if all([unit.kind == "_" for unit in units[1:]]):
        found.append(Unit("each", numbers=(many,), parts=[units[0], Unit("_")]))
    return min([simplify_unit(unit) for unit in found], key=count_units)
