"""The events of trees (see trees.py), straight by the words of points 5 and 6, with Python's own fractions."""

from fractions import Fraction
from functools import lru_cache
from math import ceil, floor

from tests.trees import items


@lru_cache(maxsize=200000)
def events_of(tree, cycle):
    """Return the sorted (offset, length, word) of all events of a cycle."""
    return tuple(sorted(RULES[tree[0]](tree, cycle)))


def word_events(tree, cycle):
    return [(Fraction(0), Fraction(1), tree[1])]


def rest_events(tree, cycle):
    return []


def seq_events(tree, cycle):
    many = len(tree[1])
    return [((part + offset) / many, length / many, word)
            for part in range(many) for offset, length, word in events_of(tree[1][part], cycle)]


def stack_events(tree, cycle):
    return [event for item in tree[1] for event in events_of(item, cycle)]


def turn_events(tree, cycle):
    many = len(tree[1])
    return events_of(tree[1][cycle % many], cycle // many)


def fast_events(tree, cycle):
    _, times, inner = tree
    return [((at + offset) / times - cycle, length / times, word)
            for at in range(cycle * times, (cycle + 1) * times) for offset, length, word in events_of(inner, at)]


def slow_events(tree, cycle):
    _, times, inner = tree
    moved = [((cycle // times + offset) * times - cycle, length * times, word)
             for offset, length, word in events_of(inner, cycle // times)]
    return [event for event in moved if 0 <= event[0] < 1]


def late_events(tree, cycle):
    shift = Fraction(tree[1], tree[2])
    moved = [(offset + shift + at, length, word)
             for at in (-1, 0) for offset, length, word in events_of(tree[3], cycle + at)]
    return [event for event in moved if 0 <= event[0] < 1]


def mirror_events(tree, cycle):
    ends = [(1 - offset - length, length, word) for offset, length, word in events_of(tree[1], cycle)]
    return [(end - floor(end), length, word) for end, length, word in ends]


def each_events(tree, cycle):
    return events_of(tree[2] if cycle % tree[1] == 0 else tree[3], cycle)


RULES = {"word": word_events, "rest": rest_events, "seq": seq_events, "stack": stack_events, "turn": turn_events,
         "fast": fast_events, "slow": slow_events, "late": late_events, "mirror": mirror_events, "each": each_events}


def longest(tree):
    """Return a length that no event of a tree exceeds."""
    greatest = max([longest(item) for item in items(tree)], default=Fraction(1))
    if tree[0] == "seq":
        return greatest / len(tree[1])
    if tree[0] == "fast":
        return greatest / tree[1]
    if tree[0] == "slow":
        return greatest * tree[1]
    return greatest


def span_of(tree, first, last):
    """Return the (time, length, word) of all events that start in the cycles from first on and before last."""
    return [(cycle + offset, length, word)
            for cycle in range(first, last) for offset, length, word in events_of(tree, cycle)]


def window_of(tree, start, end):
    """Return the sorted events that start from a time on and before another one."""
    return sorted(event for event in span_of(tree, floor(start), ceil(end)) if start <= event[0] < end)


def sounding_of(tree, time):
    """Return the sorted events that last at a time."""
    first = floor(time - longest(tree)) - 1
    return sorted(event for event in span_of(tree, first, floor(time) + 1) if event[0] <= time < event[0] + event[1])


def as_pair(number):
    number = Fraction(number)
    return (number.numerator, number.denominator)


def as_pairs(events):
    """Return events as the program gives them."""
    return [(as_pair(start), as_pair(length), word) for start, length, word in events]


def as_fractions(events):
    """Return events of the program with Python's own fractions."""
    return [(Fraction(*start), Fraction(*length), word) for start, length, word in events]
