"""Point 1 for the functions of points 7 to 11: what they refuse, in which order, and what they leave alone."""

import copy
import random
import unittest
from math import gcd

from cyclebeat.builder import build_pattern
from cyclebeat.periods import (are_equal, average_events, count_events, find_period, first_difference, next_event,
                               nth_event, tabulate, word_shares)
from cyclebeat.simplifier import simplify
from tests.faults import (INVALID_CYCLE, INVALID_NUMBER, INVALID_WORD, STRANGE, TOO_LONG, check_fault, fault_of,
                          syntax_fault)
from tests.tables import changed, small_tree
from tests.trees import canonical

HUGE = 10 ** 18
NO_WORDS = [value for value in STRANGE if value != "a"] + [
    "each", "late", "mirror", "abcdefghi", "A", "aB", "a b", " a", "a ", "a1", "_", "a_", "a\n", "\u00e9", "(a)", "a^2",
    "mirrormirror", 0, 1, ("a",), ["a", "b"], (None,)]


def is_fraction(value):
    return ([type(part) for part in (value, *value)] == [tuple, int, int] and value[1] > 0 and gcd(*value) == 1
            and (value[0] != 0 or value[1] == 1))


class CycleTest(unittest.TestCase):
    def test_strange_cycles(self):
        for value in STRANGE + [(0, 1), (1, 1), [5], (5,), 10 ** 30]:
            with self.subTest(value=value):
                self.assertEqual(fault_of(count_events, "a", value, HUGE), INVALID_CYCLE)
                self.assertEqual(fault_of(count_events, "a", 0, value), INVALID_CYCLE)
                self.assertEqual(fault_of(count_events, "_", value, value), INVALID_CYCLE)
                self.assertEqual(fault_of(next_event, "a", "a", value), INVALID_CYCLE)
                self.assertEqual(fault_of(next_event, "_", "b", value), INVALID_CYCLE)

    def test_the_limits(self):
        for start, end in ((0, 0), (0, 1), (0, HUGE), (HUGE, HUGE), (5, 5), (HUGE - 1, HUGE)):
            self.assertIsNone(fault_of(count_events, "a", start, end))
        for start, end in ((1, 0), (HUGE, 0), (HUGE, HUGE - 1), (-1, 0), (-1, -1), (0, -1), (0, HUGE + 1),
                           (HUGE + 1, HUGE + 1)):
            self.assertEqual(fault_of(count_events, "a", start, end), INVALID_CYCLE)
        for cycle in (0, HUGE):
            self.assertIsNone(fault_of(next_event, "a", "a", cycle))
        for cycle in (-1, HUGE + 1):
            self.assertEqual(fault_of(next_event, "a", "a", cycle), INVALID_CYCLE)


class NumberTest(unittest.TestCase):
    def test_strange_numbers(self):
        for value in STRANGE + [(0, 1), (1, 1), [5], 10 ** 30]:
            with self.subTest(value=value):
                for pattern in ("a", "_", "{a b}:9"):
                    self.assertEqual(fault_of(nth_event, pattern, value), INVALID_NUMBER)

    def test_the_limits(self):
        for number in (0, 1, HUGE - 1, HUGE):
            self.assertIsNone(fault_of(nth_event, "a", number))
        for number in (-1, HUGE + 1):
            self.assertEqual(fault_of(nth_event, "a", number), INVALID_NUMBER)


class WordTest(unittest.TestCase):
    def test_what_is_no_word(self):
        for value in NO_WORDS:
            with self.subTest(value=value):
                for pattern in ("a", "_"):
                    self.assertEqual(fault_of(next_event, pattern, value, 0), INVALID_WORD)

    def test_words(self):
        for word in ("a", "z", "abcdefgh", "eac", "eache", "lat", "latel", "mirro", "mirrors"):
            self.assertIsNone(fault_of(next_event, "a", word, 0))

    def test_the_order_of_faults(self):
        for word in NO_WORDS:
            for cycle in (-1, None, HUGE + 1, True, 0):
                self.assertEqual(fault_of(next_event, "a", word, cycle), INVALID_WORD)
                self.assertEqual(fault_of(next_event, "a:16:16:16", word, cycle), INVALID_WORD)
                self.assertEqual(fault_of(next_event, "(a", word, cycle), syntax_fault(2))
                self.assertEqual(fault_of(next_event, "a^0", word, cycle), check_fault("number", 2))
        self.assertEqual(fault_of(next_event, "a:16:16:16", "a", -1), INVALID_CYCLE)
        self.assertEqual(fault_of(next_event, "a:16:16:16", "a", 0), TOO_LONG)


class PatternTest(unittest.TestCase):
    def test_faults_of_patterns(self):
        faults = [(value, syntax_fault(0)) for value in STRANGE + [0, ("a",), ["a"]] if not isinstance(value, str)]
        faults += [("", syntax_fault(0)), ("(a", syntax_fault(2)), ("a b", syntax_fault(2)),
                   ("a^0", check_fault("number", 2)), ("a^16^16^2", check_fault("events", 0)),
                   ("(" * 12 + "a" + ")" * 12, check_fault("depth", 12)),
                   ("(" + "a " * 60 + ")", check_fault("size", 119))]
        for pattern, fault in faults:
            with self.subTest(pattern=pattern):
                for function in (find_period, tabulate, average_events, word_shares, simplify):
                    self.assertEqual(fault_of(function, pattern), fault)
                for function in (first_difference, are_equal):
                    self.assertEqual(fault_of(function, pattern, "a"), fault)
                    self.assertEqual(fault_of(function, "a", pattern), fault)
                for value in (0, None):
                    self.assertEqual(fault_of(nth_event, pattern, value), fault)
                    self.assertEqual(fault_of(count_events, pattern, value, value), fault)
                    self.assertEqual(fault_of(next_event, pattern, value, value), fault)


class BehaviourTest(unittest.TestCase):
    def results(self, rng, text, other):
        start = rng.choice((0, 7, HUGE - 9))
        return [find_period(text), tabulate(text), first_difference(text, other), are_equal(text, other),
                count_events(text, start, start + 9), nth_event(text, start), average_events(text),
                next_event(text, "a", start), word_shares(text), simplify(text)]

    def pairs(self, seed, many):
        rng = random.Random(seed)
        for _ in range(many):
            tree = small_tree(rng, 9, 12)
            other = changed(rng, tree)
            if fault_of(first_difference, canonical(tree), canonical(other)) is None:
                yield rng, canonical(tree), canonical(other)

    def test_kinds_of_results(self):
        for rng, text, other in self.pairs(95, 250):
            results = self.results(rng, text, other)
            period, table, difference, equal, many, event, average, following, shares, simple = results
            self.assertEqual([type(value) for value in (period, table, equal, many, shares, simple)],
                             [int, list, bool, int, list, str])
            events = [event for row in table for event in row]
            self.assertTrue(all(type(row) is list for row in table))
            self.assertTrue(all(type(event) is tuple and type(event[2]) is str for event in events))
            fractions = [fraction for event in events for fraction in event[:2]] + [average]
            for found, size in ((difference, 5), (event, 4), (following, 3)):
                if found is not None:
                    self.assertEqual((type(found), type(found[0]), len(found)), (tuple, int, size))
                    fractions += found[1:3]
            if difference is not None:
                self.assertEqual((type(difference[3]), type(difference[4])), (str, int))
            for share in shares:
                self.assertEqual([type(part) for part in (share, *share)], [tuple, str, int, tuple])
                fractions.append(share[2])
            for fraction in fractions:
                self.assertTrue(is_fraction(fraction), (text, fraction))

    def test_repeating_a_call_gives_the_same(self):
        for rng, text, other in self.pairs(96, 60):
            state = rng.getstate()
            first = self.results(rng, text, other)
            kept = copy.deepcopy(first)
            for value in first:
                if isinstance(value, list):
                    value.reverse()
                    value.append(None)
            rng.setstate(state)
            self.assertEqual(self.results(rng, text, other), kept)

    def test_errors_change_nothing(self):
        rng = random.Random(97)
        before = self.results(rng, "{a (b c)}", "{a (b b)}")
        for value in STRANGE:
            for function in (find_period, tabulate, average_events, word_shares, simplify, build_pattern):
                fault_of(function, value)
            for function in (first_difference, are_equal, nth_event):
                fault_of(function, "{a (b c)}", value)
            fault_of(count_events, "{a (b c)}", value, value)
            fault_of(next_event, "{a (b c)}", value, value)
        self.assertEqual(self.results(random.Random(97), "{a (b c)}", "{a (b b)}"), before)

    def test_arguments_are_not_modified(self):
        values = copy.deepcopy(STRANGE)
        for value in values:
            for function in (find_period, tabulate, average_events, word_shares, simplify, build_pattern):
                fault_of(function, value)
            for function in (first_difference, are_equal, nth_event):
                fault_of(function, "a", value)
                fault_of(function, value, value)
            fault_of(count_events, "a", value, value)
            fault_of(next_event, "a", value, value)
            fault_of(next_event, "a", "a", value)
        self.assertEqual(repr(values), repr(STRANGE))


if __name__ == "__main__":
    unittest.main()
