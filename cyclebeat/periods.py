"""Periods of patterns, the comparison of patterns for ever, and the counting of their events."""

from cyclebeat.comparison import common_bound, find_difference
from cyclebeat.errors import InvalidCycle, InvalidNumber, InvalidWord, TooLong
from cyclebeat.fraction import is_whole, lowest
from cyclebeat.moments import is_cycle
from cyclebeat.reader import read_pattern, read_patterns
from cyclebeat.table import LONGEST_TABLE, as_fractions, find_bound, list_cycles
from cyclebeat.timeline import fitting_grid
from cyclebeat.tokens import is_free_word

LARGEST_EVENT_NUMBER = 10 ** 18


def find_period(pattern):
    """Return the smallest number of cycles after which the events of all cycles repeat."""
    return len(_one_period(read_pattern(pattern)))


def tabulate(pattern):
    """Return the list of the sorted (offset, length, word) of each cycle of a period."""
    unit = read_pattern(pattern)
    grid = fitting_grid(unit)
    return [as_fractions(row, grid) for row in _one_period(unit)]


def first_difference(first, second):
    """Return (cycle, offset, length, word, number) of the first event that only one pattern has, or None."""
    ours, theirs = read_patterns([first, second])
    _check_length(common_bound(ours, theirs))
    return find_difference(ours, theirs)


def are_equal(first, second):
    """Return whether two patterns have the same events in all cycles."""
    return first_difference(first, second) is None


def count_events(pattern, start, end):
    """Return how many events start in the cycles from one on and before another one."""
    unit = read_pattern(pattern)
    if not is_cycle(start) or not is_cycle(end) or start > end:
        raise InvalidCycle("the cycles are not integers from 0 to 10 ** 18 in ascending order")
    sizes = [len(row) for row in _bound_table(unit)]
    return _count_before(sizes, end) - _count_before(sizes, start)


def nth_event(pattern, number):
    """Return (cycle, offset, length, word) of the event with a number, from the time 0 on, or None."""
    unit = read_pattern(pattern)
    if not is_whole(number) or not 0 <= number <= LARGEST_EVENT_NUMBER:
        raise InvalidNumber("the number is not an integer from 0 to 10 ** 18")
    rows = _bound_table(unit)
    total = sum([len(row) for row in rows])
    if total == 0:
        return None
    turn, left = divmod(number, total)
    at = 0
    while left >= len(rows[at]):
        left -= len(rows[at])
        at += 1
    offset, length, word = rows[at][left]
    grid = fitting_grid(unit)
    return (turn * len(rows) + at, lowest(offset, grid), lowest(length, grid), word)


def average_events(pattern):
    """Return the average number of events that start in a cycle, a fraction."""
    rows = _bound_table(read_pattern(pattern))
    return lowest(sum([len(row) for row in rows]), len(rows))


def next_event(pattern, word, cycle):
    """Return (cycle, offset, length) of the first event with a word that starts in a cycle or later, or None."""
    unit = read_pattern(pattern)
    if not is_free_word(word):
        raise InvalidWord("the word is not one to eight letters a to z, or it is a keyword")
    if not is_cycle(cycle):
        raise InvalidCycle("the cycle is not an integer from 0 to 10 ** 18")
    rows = _bound_table(unit)
    grid = fitting_grid(unit)
    for later in range(cycle, cycle + len(rows)):
        for offset, length, other in rows[later % len(rows)]:
            if other == word:
                return (later, lowest(offset, grid), lowest(length, grid))
    return None


def word_shares(pattern):
    """Return (word, number of its events in a period, sum of their lengths) for each word, in ascending order."""
    unit = read_pattern(pattern)
    grid = fitting_grid(unit)
    numbers = {}
    lengths = {}
    for row in _one_period(unit):
        for _, length, word in row:
            numbers[word] = numbers.get(word, 0) + 1
            lengths[word] = lengths.get(word, 0) + length
    return [(word, numbers[word], lowest(lengths[word], grid)) for word in sorted(numbers)]


def _check_length(bound):
    if bound > LONGEST_TABLE:
        raise TooLong("the events may repeat only after more than 1000 cycles")


def _bound_table(unit):
    """Return the table of all cycles after which the events of a tree repeat, by its bound."""
    bound = find_bound(unit)
    _check_length(bound)
    return list_cycles(unit, 0, bound, fitting_grid(unit))


def _one_period(unit):
    """Return the table of the smallest number of cycles after which the events of a tree repeat."""
    rows = _bound_table(unit)
    bound = len(rows)
    for period in range(1, bound):
        # As all sums and differences of periods are periods, the smallest one divides the bound.
        if bound % period == 0 and rows[period:] == rows[:bound - period]:
            return rows[:period]
    return rows


def _count_before(sizes, cycle):
    """Return how many events start before a cycle, from the cycle 0 on, by the sizes of the cycles of a table."""
    turns, rest = divmod(cycle, len(sizes))
    return turns * sum(sizes) + sum(sizes[:rest])
