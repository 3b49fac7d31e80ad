"""What points 7 to 9 say of trees (see trees.py), computed from the events of oracle.py without the program."""

from collections import Counter
from fractions import Fraction
from math import gcd, lcm

from tests.oracle import as_pair, events_of
from tests.trees import BRACKETS, items, valid_tree


def bound_of(tree):
    """Return the bound of point 7."""
    least = lcm(*[bound_of(item) for item in items(tree)])
    if tree[0] == "turn":
        return least * len(tree[1])
    if tree[0] == "fast":
        return least // gcd(least, tree[1])
    if tree[0] == "slow":
        return least * tree[1]
    if tree[0] == "each":
        return lcm(least, tree[1])
    return least


def bounded_tree(rng, most_cycles, *args):
    """Return a random valid tree whose bound is at most `most_cycles`, more often than not above one."""
    while True:
        tree = valid_tree(rng, *args)
        if bound_of(tree) <= most_cycles and (bound_of(tree) > 1 or rng.random() < 0.3):
            return tree


def small_tree(rng, most_units=9, most_cycles=40):
    """Return a random tree of few units, small numbers and a small bound."""
    return bounded_tree(rng, most_cycles, rng.randint(1, most_units), 12, rng.choice((2, 4, 6)), 12)


def table_of(tree):
    """Return the events of all cycles of the bound."""
    return [events_of(tree, cycle) for cycle in range(bound_of(tree))]


def period_of(tree):
    """Return the smallest number of cycles after which the events repeat, trying all of them."""
    table = table_of(tree)
    for period in range(1, len(table) + 1):
        if all(row == table[(cycle + period) % len(table)] for cycle, row in enumerate(table)):
            return period
    raise AssertionError("the bound is no period: " + repr(tree))


def one_period(tree):
    return table_of(tree)[:period_of(tree)]


def difference_of(first, second):
    """Return the first difference of two trees by comparing how often each event occurs in each cycle."""
    for cycle in range(lcm(bound_of(first), bound_of(second))):
        ours, theirs = Counter(events_of(first, cycle)), Counter(events_of(second, cycle))
        unlike = [event for event in {*ours, *theirs} if ours[event] != theirs[event]]
        if unlike:
            offset, length, word = event = min(unlike)
            return (cycle, as_pair(offset), as_pair(length), word, 0 if ours[event] > theirs[event] else 1)
    return None


def swapped(difference):
    """Return the difference of two patterns in the other direction."""
    return difference and (*difference[:4], 1 - difference[4])


def number_of_events(tree, start, end):
    """Return how many events start in some cycles: for each cycle of a period, how often it occurs in them."""
    table = one_period(tree)
    many = 0
    for cycle, row in enumerate(table):
        before_end = (end - cycle + len(table) - 1) // len(table)
        before_start = (start - cycle + len(table) - 1) // len(table)
        many += len(row) * (before_end - before_start)
    return many


def event_with_number(tree, number):
    table = one_period(tree)
    numbered = [(cycle, event) for cycle, row in enumerate(table) for event in row]
    if not numbered:
        return None
    cycle, (offset, length, word) = numbered[number % len(numbered)]
    return (cycle + number // len(numbered) * len(table), as_pair(offset), as_pair(length), word)


def average_of(tree):
    table = one_period(tree)
    return as_pair(Fraction(sum(len(row) for row in table), len(table)))


def next_with_word(tree, word, cycle):
    """Return the next event with a word by looking at the cycles one by one."""
    for at in range(cycle, cycle + bound_of(tree)):
        for offset, length, other in events_of(tree, at):
            if other == word:
                return (at, as_pair(offset), as_pair(length))
    return None


def shares_of(tree):
    events = [event for row in one_period(tree) for event in row]
    words = sorted({word for _, _, word in events})
    lengths = {word: [length for _, length, other in events if other == word] for word in words}
    return [(word, len(lengths[word]), as_pair(sum(lengths[word]))) for word in words]


def words_of(tree):
    if tree[0] == "word":
        return {tree[1]}
    return {word for item in items(tree) for word in words_of(item)}


def changed(rng, tree):
    """Return a tree with one word, rest or number in it changed, or with two of its items exchanged."""
    inner = items(tree)
    if not inner:
        return rng.choice((("rest",), ("word", "z"), ("word", "a"), ("slow", 2, tree), ("fast", 2, tree)))
    if tree[0] in ("fast", "slow", "each") and rng.random() < 0.3:
        return (tree[0], tree[1] % 16 + 1, *tree[2:])
    if tree[0] == "late" and rng.random() < 0.3:
        return ("late", (tree[1] + 1) % tree[2], *tree[2:])
    if len(inner) > 1 and rng.random() < 0.2:
        return with_items(tree, inner[::-1])
    at = rng.randrange(len(inner))
    return with_items(tree, inner[:at] + [changed(rng, inner[at])] + inner[at + 1:])


def with_items(tree, inner):
    """Return a tree with other items."""
    if tree[0] in BRACKETS:
        return (tree[0], tuple(inner))
    return (*tree[:len(tree) - len(inner)], *inner)
