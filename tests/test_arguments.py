"""Points 1 and 6: which arguments are refused, in which order, and what the functions leave alone."""

import copy
import random
import unittest
from math import gcd

from cyclebeat.events import cycle_events, sounding_events, window_events
from cyclebeat.formatter import format_pattern, measure
from cyclebeat.fraction import is_fraction, lowest
from tests.faults import INVALID_CYCLE, INVALID_TIME, STRANGE, check_fault, fault_of, syntax_fault
from tests.trees import canonical, valid_tree

HUGE = 10 ** 18
ZERO, ONE = (0, 1), (1, 1)
BROKEN = (("(a", syntax_fault(2)), ("a^0", check_fault("number", 2)), ("a^16^16^2", check_fault("events", 0)))


class FractionTest(unittest.TestCase):
    def test_what_is_a_fraction(self):
        for value in (ZERO, ONE, (1, 2), (-1, 2), (-7, 1), (HUGE + 1, 1), (3, 10 ** 40)):
            self.assertTrue(is_fraction(value), value)
        for value in [(0, 0), (1, 0), (-1, 0), (0, 2), (0, -1), (2, 4), (-2, 4), (1, -2), (-1, -2), (1, 1, 1), (1,), (),
                      [1, 2], 1, True, None, "12", (True, 1), (1, True), (False, True), (None, 1), ("1", 2)]:
            self.assertFalse(is_fraction(value), value)

    def test_lowest_terms(self):
        for (over, under), expected in {(0, 5): ZERO, (4, 4): ONE, (6, 4): (3, 2), (-6, 4): (-3, 2), (5, 1): (5, 1),
                                        (-4, 2): (-2, 1), (10 ** 40, 10 ** 39): (10, 1)}.items():
            self.assertEqual(lowest(over, under), expected)


class CycleArgumentTest(unittest.TestCase):
    def test_strange_cycles(self):
        for value in STRANGE + [ZERO, ONE, (1, 2), -HUGE, 10 ** 30, [True], (None,)]:
            with self.subTest(value=value):
                self.assertEqual(fault_of(cycle_events, "a", value), INVALID_CYCLE)

    def test_the_limits(self):
        for cycle in (0, 1, HUGE - 1, HUGE):
            self.assertIsNone(fault_of(cycle_events, "a", cycle))
        for cycle in (-1, HUGE + 1):
            self.assertEqual(fault_of(cycle_events, "a", cycle), INVALID_CYCLE)

    def test_patterns_without_events(self):
        for value in (-1, None, HUGE + 1, False):
            self.assertEqual(fault_of(cycle_events, "_", value), INVALID_CYCLE)

    def test_the_pattern_is_checked_first(self):
        for pattern, fault in BROKEN:
            for value in STRANGE:
                self.assertEqual(fault_of(cycle_events, pattern, value), fault)


class TimeArgumentTest(unittest.TestCase):
    def test_strange_times(self):
        for value in STRANGE + [0, 1, HUGE, [1, 2], [(1, 2)]]:
            with self.subTest(value=value):
                self.assertEqual(fault_of(sounding_events, "a", value), INVALID_TIME)
                self.assertEqual(fault_of(window_events, "a", value, ONE), INVALID_TIME)
                self.assertEqual(fault_of(window_events, "a", ZERO, value), INVALID_TIME)
                self.assertEqual(fault_of(window_events, "_", value, value), INVALID_TIME)

    def test_the_limits(self):
        for time in (ZERO, ONE, (1, 2), (HUGE, 1), (2 * HUGE - 1, 2), (1, 10 ** 40), (10 ** 40 - 1, 10 ** 40)):
            self.assertIsNone(fault_of(sounding_events, "a", time))
            self.assertIsNone(fault_of(window_events, "a", time, time))
        for time in ((-1, 1), (-1, 10 ** 40), (HUGE + 1, 1), (2 * HUGE + 1, 2), (10 ** 58 + 1, 10 ** 40)):
            self.assertEqual(fault_of(sounding_events, "a", time), INVALID_TIME)
            self.assertEqual(fault_of(window_events, "a", time, time), INVALID_TIME)

    def test_reversed_windows(self):
        for start, end in ((ONE, ZERO), ((1, 2), (1, 3)), ((2, 3), (1, 2)), ((HUGE, 1), (2 * HUGE - 1, 2))):
            self.assertEqual(fault_of(window_events, "a", start, end), INVALID_TIME)
            self.assertIsNone(fault_of(window_events, "a", end, start))

    def test_long_windows(self):
        for start, end in ((ZERO, (20, 1)), ((1, 3), (61, 3)), ((HUGE - 20, 1), (HUGE, 1)), ((1, 2), (41, 2))):
            self.assertIsNone(fault_of(window_events, "a", start, end))
        for start, end in ((ZERO, (21, 1)), (ZERO, (201, 10)), ((1, 3), (62, 3)), ((1, 3), (41, 2)),
                           ((HUGE - 21, 1), (HUGE, 1)), (ZERO, (20 * 10 ** 30 + 1, 10 ** 30)), (ZERO, (HUGE, 1))):
            self.assertEqual(fault_of(window_events, "a", start, end), INVALID_TIME)

    def test_the_pattern_is_checked_first(self):
        for pattern, fault in BROKEN:
            for value in STRANGE:
                self.assertEqual(fault_of(sounding_events, pattern, value), fault)
                self.assertEqual(fault_of(window_events, pattern, value, ONE), fault)
                self.assertEqual(fault_of(window_events, pattern, ZERO, value), fault)
            self.assertEqual(fault_of(window_events, pattern, ONE, ZERO), fault)


class PatternArgumentTest(unittest.TestCase):
    def test_what_is_no_string(self):
        for value in STRANGE + [0, 1, ("a",), ["a"], [["a"]]]:
            if not isinstance(value, str):
                with self.subTest(value=value):
                    self.assertEqual(fault_of(format_pattern, value), syntax_fault(0))
                    self.assertEqual(fault_of(measure, value), syntax_fault(0))
                    self.assertEqual(fault_of(cycle_events, value, None), syntax_fault(0))
                    self.assertEqual(fault_of(window_events, value, None, None), syntax_fault(0))
                    self.assertEqual(fault_of(sounding_events, value, None), syntax_fault(0))


class BehaviourTest(unittest.TestCase):
    def all_results(self, text, rng):
        cycle = rng.choice((0, 5, HUGE - 2))
        return [cycle_events(text, cycle), window_events(text, (2 * cycle + 1, 2), (cycle + 1, 1)),
                sounding_events(text, (4 * cycle + 1, 4))]

    def test_fractions_are_in_lowest_terms(self):
        rng = random.Random(18)
        for _ in range(300):
            text = canonical(valid_tree(rng, rng.randint(1, 20)))
            for events in self.all_results(text, rng):
                self.assertIs(type(events), list)
                for event in events:
                    self.assertIs(type(event), tuple)
                    self.assertIs(type(event[2]), str)
                    for fraction in event[:2]:
                        self.assertEqual([type(part) for part in (fraction, *fraction)], [tuple, int, int])
                        self.assertTrue(fraction[1] > 0 and gcd(*fraction) == 1, fraction)

    def test_offsets_and_lengths_are_in_their_ranges(self):
        rng = random.Random(19)
        for _ in range(200):
            text = canonical(valid_tree(rng, rng.randint(1, 20)))
            for (over, under), (length, _), _ in cycle_events(text, rng.choice((0, 1, 17, HUGE))):
                self.assertTrue(0 <= over < under and length > 0)

    def test_repeating_a_call_changes_nothing(self):
        rng = random.Random(20)
        for _ in range(50):
            text = canonical(valid_tree(rng, 10))
            state = rng.getstate()
            first = self.all_results(text, rng)
            kept = copy.deepcopy(first)
            for events in first:
                events.reverse()
                events.append(None)
            rng.setstate(state)
            self.assertEqual(self.all_results(text, rng), kept)

    def test_errors_change_nothing(self):
        before = cycle_events("(a b)", 3)
        for value in STRANGE:
            fault_of(cycle_events, "(a b)", value)
            fault_of(cycle_events, value, 3)
            fault_of(window_events, "(a b)", value, value)
            fault_of(sounding_events, "(a b", value)
        self.assertEqual(cycle_events("(a b)", 3), before)

    def test_arguments_are_not_modified(self):
        values = copy.deepcopy(STRANGE)
        for value in values:
            for function in (cycle_events, sounding_events):
                fault_of(function, "a", value)
                fault_of(function, value, 0)
            fault_of(window_events, "a", value, value)
        self.assertEqual(repr(values), repr(STRANGE))


if __name__ == "__main__":
    unittest.main()
