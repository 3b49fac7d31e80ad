"""Point 11: build_pattern."""

import copy
import random
import unittest
from fractions import Fraction

from cyclebeat.builder import build_pattern
from cyclebeat.events import cycle_events
from cyclebeat.formatter import format_pattern, measure
from cyclebeat.periods import find_period, tabulate
from tests.faults import STRANGE, fault_of, invalid_events
from tests.oracle import as_fractions, as_pair, as_pairs, events_of
from tests.reading import read_tree
from tests.trees import random_word

HUGE = 10 ** 18
EVENT = ((1, 4), (1, 2), "a")


def random_event(rng, longest=16):
    divisor = rng.randint(1, 64)
    offset = rng.choice((Fraction(0), Fraction(rng.randrange(divisor), divisor), Fraction(rng.randrange(4), 4)))
    return (as_pair(offset), (1, rng.randint(1, longest)), random_word(rng))


def units_of(cycles):
    """Return the number of units of the pattern that point 11 speaks of, with `[ ]` for each cycle within `{ }`."""
    return 1 + sum(max(1, len(cycle)) + sum(length[1] + 2 for _, length, _ in cycle) for cycle in cycles)


def short_list(rng, most_cycles, most_events):
    """Return random cycles for which a pattern of sixty units is enough."""
    while True:
        longest = rng.choice((1, 2, 4, 16))
        cycles = [[random_event(rng, longest) for _ in range(rng.randint(0, most_events))]
                  for _ in range(rng.randint(1, most_cycles))]
        if units_of(cycles) <= 60:
            return cycles


class BuildTest(unittest.TestCase):
    def check(self, cycles):
        """Build a pattern, and compare its events with those of some cycles."""
        kept = copy.deepcopy(cycles)
        pattern = build_pattern(cycles)
        self.assertEqual(cycles, kept)
        self.assertLessEqual(measure(pattern), 60)
        self.assertEqual(format_pattern(pattern), pattern)
        expected = [sorted(as_fractions(cycle)) for cycle in cycles]
        for cycle in [*range(2 * len(cycles) + 1), *range(HUGE - len(cycles), HUGE + 1)]:
            row = expected[cycle % len(cycles)]
            self.assertEqual(cycle_events(pattern, cycle), as_pairs(row), (cycles, pattern, cycle))
            self.assertEqual(list(events_of(read_tree(pattern), cycle)), row)
        self.assertEqual(tabulate(pattern), [as_pairs(row) for row in expected[:find_period(pattern)]])
        self.assertEqual(len(cycles) % find_period(pattern), 0)

    def test_up_to_four_cycles(self):
        rng = random.Random(90)
        for _ in range(400):
            self.check(short_list(rng, 4, 2))

    def test_up_to_sixteen_cycles(self):
        rng = random.Random(91)
        for _ in range(100):
            self.check(short_list(rng, 16, rng.choice((1, 2, 6))))

    def test_sixteen_cycles(self):
        self.check([[] for _ in range(16)])
        self.check([[((0, 1), (1, 1), "a")] for _ in range(16)])
        self.check([[(as_pair(Fraction(at, 17)), (1, 1), "abcdefgh"[:at % 8 + 1])] for at in range(16)])
        self.check([[((1, 64), (1, 1), "a")] * (at % 2) for at in range(16)])

    def test_a_single_event_anywhere(self):
        for many in range(1, 17):
            for at in {0, 1, many // 2, many - 1} - {many}:
                self.check([[EVENT] if cycle == at else [] for cycle in range(many)])

    def test_offsets(self):
        for offset in ((0, 1), (1, 64), (63, 64), (1, 63), (1, 2), (5, 7)):
            for many in (1, 2, 16):
                self.check([[(offset, (1, many), "a")]])
                self.check([[], [(offset, (1, many), "a")], []])

    def test_lengths(self):
        for many in range(1, 17):
            self.check([[((2, 3), (1, many), "a")], [((0, 1), (1, many), "b")]])

    def test_the_same_event_more_than_once(self):
        self.check([[EVENT, EVENT]])
        self.check([[EVENT, EVENT, ((1, 4), (1, 2), "b")], [EVENT]])
        self.check([[((0, 1), (1, 1), "a")] * 19])
        self.check([[((0, 1), (1, 1), "a"), ((0, 1), (1, 1), "a")], []])

    def test_equal_cycles(self):
        self.check([[EVENT], [EVENT]])
        self.check([[EVENT], [], [EVENT], []])
        self.check([[], []])
        self.check([[]])

    def test_events_in_any_order(self):
        events = [((1, 2), (1, 3), "b"), ((1, 2), (1, 3), "a"), ((1, 2), (1, 4), "c"), ((1, 7), (1, 2), "a"),
                  ((0, 1), (1, 1), "z")]
        self.check([events, events[::-1]])

    def test_words(self):
        for word in ("a", "z", "abcdefgh", "eac", "lat", "latex", "mirrors", "eachh"):
            self.check([[((1, 2), (1, 3), word)]])

    def test_few_units_are_enough(self):
        self.check([[(as_pair(Fraction(at, 14)), (1, 2), "a") for at in range(14)]])
        self.check([[(as_pair(Fraction(at, 14)), (1, 2), "a") for at in range(13)]] + [[] for _ in range(15)])
        self.check([[], [(as_pair(Fraction(at, 12)), (1, 2), "a") for at in range(12)], [], []])
        self.check([[((1, 3), (1, 16), "a")], [((1, 3), (1, 16), "b")], [((1, 3), (1, 16), "c")]])
        self.check([[((1, 3), (1, at), "a") for at in range(1, 9)], []])


class InvalidTest(unittest.TestCase):
    def assert_invalid(self, cycles, place):
        kept = repr(cycles)
        self.assertEqual(fault_of(build_pattern, cycles), invalid_events(place), kept)
        self.assertEqual(repr(cycles), kept)

    def invalid_items(self):
        """Return items of which none is an event."""
        others = [5, [], [list(EVENT)], list(EVENT), (EVENT,), EVENT[:2], (*EVENT, "a"), ((1, 4), "a", (1, 2))]
        offsets = STRANGE + [0, 1, (1, 1), (2, 1), (5, 4), (-1, 4), (1, 65), (64, 65), (1, 1000), (0, 64), (2, 8),
                             [1, 4]]
        lengths = STRANGE + [1, (1, 17), (2, 3), (2, 1), (0, 1), (1, 0), (1, 1, 1), (-1, 2), (1, -1), (2, 2),
                             (True, True), (1, 64), [1, 2], (16, 1)]
        words = [value for value in STRANGE if value != "a"]
        words += ["each", "late", "mirror", "abcdefghi", "A", "a b", "a1", "_", " a", "a ", "a^2", "\u00e9", 5, ("a",)]
        return (others + [value for value in STRANGE if value != EVENT]
                + [(offset, (1, 2), "a") for offset in offsets] + [((1, 4), length, "a") for length in lengths]
                + [((1, 4), (1, 2), word) for word in words])

    def test_invalid_items(self):
        for item in self.invalid_items():
            with self.subTest(item=item):
                self.assert_invalid([[item]], 0)
                self.assert_invalid([[EVENT, item]], 0)
                self.assert_invalid([[item, EVENT], [5]], 0)
                self.assert_invalid([[], [EVENT], [EVENT, item, EVENT], [item], []], 2)

    def test_invalid_cycles_at_any_position(self):
        rng = random.Random(92)
        items = self.invalid_items()
        for _ in range(400):
            many = rng.randint(1, 16)
            place = rng.randrange(many)
            cycles = [rng.choice(([], [EVENT], [EVENT, EVENT])) for _ in range(many)]
            cycles[place] = rng.choice(([rng.choice(items)], [EVENT, rng.choice(items)], None, (EVENT,), EVENT, "a", 7))
            if place + 1 < many and rng.random() < 0.5:
                cycles[rng.randrange(place + 1, many)] = [rng.choice(items)]
            self.assert_invalid(cycles, place)

    def test_cycles_that_are_no_lists(self):
        for value in STRANGE + [0, EVENT, (EVENT,), "a"]:
            if not isinstance(value, list):
                self.assert_invalid([value], 0)
                self.assert_invalid([[], [EVENT], value, 5], 2)

    def test_arguments_that_are_no_lists(self):
        for value in STRANGE + [0, ([EVENT],), EVENT, "a", ([],), ()]:
            if not isinstance(value, list):
                self.assert_invalid(value, 0)
        self.assert_invalid([], 0)

    def test_too_many_cycles(self):
        self.assert_invalid([[] for _ in range(17)], 16)
        self.assert_invalid([[] for _ in range(100)], 16)
        self.assert_invalid([[] for _ in range(16)] + [5], 16)
        self.assert_invalid([[] for _ in range(17)] + [[5]], 16)
        self.assert_invalid([[] for _ in range(15)] + [[5]] + [[]], 15)
        self.assert_invalid([[]] + [[5]] + [[] for _ in range(20)], 1)
        self.assertIsNone(fault_of(build_pattern, [[] for _ in range(16)]))

    def test_a_valid_call_after_an_invalid_one(self):
        fault_of(build_pattern, [[EVENT], [5]])
        pattern = build_pattern([[EVENT], []])
        self.assertEqual([cycle_events(pattern, cycle) for cycle in range(2)], [[EVENT], []])


if __name__ == "__main__":
    unittest.main()
