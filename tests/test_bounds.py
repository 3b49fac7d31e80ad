"""Points 7 to 9: TooLong, by the bounds of patterns."""

import random
import unittest
from math import lcm

from cyclebeat.events import cycle_events, sounding_events, window_events
from cyclebeat.formatter import format_pattern, measure
from cyclebeat.periods import (are_equal, average_events, count_events, find_period, first_difference, next_event,
                               nth_event, tabulate, word_shares)
from cyclebeat.simplifier import simplify
from tests.faults import (INVALID_CYCLE, INVALID_NUMBER, INVALID_WORD, STRANGE, TOO_LONG, check_fault, fault_of,
                          syntax_fault)
from tests.oracle import as_pairs, events_of
from tests.tables import bound_of
from tests.trees import canonical, valid_tree

HUGE = 10 ** 18
CALLS = (
    (find_period,), (tabulate,), (count_events, 0, 5), (count_events, 3, 3), (count_events, HUGE, HUGE),
    (nth_event, 0), (nth_event, HUGE), (average_events,), (next_event, "a", 0), (next_event, "a", HUGE), (word_shares,),
)
WITHIN = ["a:10:10:10", "{a b c d e f g h i j}:10:10", "a:16:16:4^2", "a:16:16:16:16^16^16", "a:10:10:11^11",
          "each(8, a:5:5:5, b)", "(a:8 {b c d e f}:5:5)", "late(1/2, mirror([a:8 + b:5:5:5]))", "a:9:9:9",
          "a:13:11:7^7", "{a {b {c {d {e {f {g {h {i b}}}}}}}}}", "_:10:10:10", "(a b):10:10:10",
          "each(15, {a b c d}:16, b)"]
BEYOND = ["a:16:16:4", "a:11:13:7", "{a b c d e f g h i j k}:10:10", "a:16:16:8^2", "a^4:16:16:8", "a^16^16:16:16:16",
          "each(16, a:9, b:7)", "(a:16 [b:9 + c:7] d:2)", "_:16:16:16", "{_ _ _}:16:16:16",
          "mirror(late(1/2, a:16:16:4))", "{a {b {c {d {e {f {g {h {i {j b}}}}}}}}}}", "a" + ":16" * 600,
          "(a _)^2:16:16:16", "each(7, a:12:12, b)", "{a a}:16:16:2",
          "each(1, a, b:16:16:16)", "each(16, a:3:3, b:7:3)"]
PAIRS_WITHIN = [("a:8", "b:5:5:5"), ("a:10:10:10", "_"), ("a:10:10:10", "{a b c d}:5:2"), ("a:9:9:9", "a:3"),
                ("each(8, a, b)", "each(5, {a b c d e}:5:5, b)"), ("a:16:16:4^2", "{a b}:16")]
PAIRS_BEYOND = [("a:10:10:10", "a:3"), ("a:10:10", "b:11"), ("a:16:8", "b:9"), ("a:16:16:4", "a:16:16:4"),
                ("_:16:9", "_:7"), ("a:16:16:16", "_"), ("{a b c d e f g}:16", "each(9, a, b)")]


class RandomBoundTest(unittest.TestCase):
    def test_by_the_words_of_point_7(self):
        rng = random.Random(33)
        seen = {True: 0, False: 0}
        for _ in range(6000):
            tree = valid_tree(rng, rng.randint(1, 15), 12, rng.choice((3, 6, 16)), 8)
            text = canonical(tree)
            if bound_of(tree) > 500:
                fault = TOO_LONG if bound_of(tree) > 1000 else None
                seen[fault is None] += 1
                for function, *arguments in CALLS if fault else CALLS[:1]:
                    self.assertEqual(fault_of(function, text, *arguments), fault, text)
                self.assertEqual(fault_of(first_difference, text, "a"), fault, text)
        self.assertGreater(min(seen.values()), 20, seen)

    def test_pairs(self):
        rng = random.Random(34)
        seen = {True: 0, False: 0}
        for _ in range(1500):
            trees = [("slow", rng.randint(1, 16), valid_tree(rng, rng.randint(1, 5), 4, 16, 8)) for _ in range(2)]
            bound = lcm(*[bound_of(tree) for tree in trees])
            if bound > 200 and max(bound_of(tree) for tree in trees) <= 1000:
                texts = [canonical(tree) for tree in trees]
                fault = TOO_LONG if bound > 1000 else None
                seen[fault is None] += 1
                for function in (first_difference, are_equal):
                    self.assertEqual(fault_of(function, *texts), fault, texts)
                    self.assertEqual(fault_of(function, *texts[::-1]), fault, texts)
        self.assertGreater(min(seen.values()), 20, seen)

    def test_events_of_cycles_can_always_be_computed(self):
        rng = random.Random(35)
        many = 0
        while many < 60:
            tree = valid_tree(rng, rng.randint(1, 15), 12, 16, 8)
            if bound_of(tree) > 1000:
                many += 1
                for cycle in (0, 1, 999, 1000, 1001, HUGE):
                    self.assertEqual(cycle_events(canonical(tree), cycle), as_pairs(events_of(tree, cycle)))


class BoundTest(unittest.TestCase):
    def test_bounds_within(self):
        for pattern in WITHIN:
            for function, *arguments in CALLS:
                with self.subTest(pattern=pattern, function=function):
                    self.assertIsNone(fault_of(function, pattern, *arguments))

    def test_bounds_beyond(self):
        for pattern in BEYOND:
            for function, *arguments in CALLS:
                with self.subTest(pattern=pattern, function=function):
                    self.assertEqual(fault_of(function, pattern, *arguments), TOO_LONG)

    def test_pairs_within(self):
        for first, second in PAIRS_WITHIN:
            for function in (first_difference, are_equal):
                self.assertIsNone(fault_of(function, first, second), (first, second))
                self.assertIsNone(fault_of(function, second, first), (first, second))

    def test_pairs_beyond(self):
        for first, second in PAIRS_BEYOND:
            for function in (first_difference, are_equal):
                self.assertEqual(fault_of(function, first, second), TOO_LONG, (first, second))
                self.assertEqual(fault_of(function, second, first), TOO_LONG, (first, second))

    def test_the_bound_counts_and_not_the_period(self):
        self.assertEqual(find_period("{a a a a a a a a a a}:10:10"), 100)
        self.assertEqual(find_period("_:10:10:10"), 1)
        self.assertEqual(fault_of(find_period, "_:10:10:11"), TOO_LONG)
        self.assertEqual(fault_of(find_period, "a^16:16:8:8"), TOO_LONG)
        self.assertEqual(find_period("a:16:8:8^16"), 64)

    def test_a_thousand_cycles(self):
        self.assertEqual(find_period("a:10:10:10"), 1000)
        self.assertEqual(tabulate("a:10:10:10"), [[((0, 1), (1000, 1), "a")]] + [[]] * 999)
        self.assertEqual(count_events("a:10:10:10", 1, HUGE), 10 ** 15 - 1)
        self.assertEqual(next_event("a:10:10:10", "a", 1), (1000, (0, 1), (1000, 1)))
        self.assertEqual(first_difference("a:10:10:10", "[a:10:10:10 + {_ b}:5^5:10:10:5]"),
                         (500, (0, 1), (500, 1), "b", 1))
        self.assertTrue(are_equal("a:10:10:10", "[_ + a:10^10:10:10]:10"))

    def test_other_functions_do_not_raise_it(self):
        for pattern in BEYOND:
            for function, *arguments in ((format_pattern,), (measure,), (simplify,), (cycle_events, HUGE),
                                         (window_events, (0, 1), (20, 1)), (sounding_events, (HUGE, 1))):
                self.assertIsNone(fault_of(function, pattern, *arguments), (pattern, function))


class OrderTest(unittest.TestCase):
    def test_faults_of_the_pattern_come_first(self):
        for pattern, fault in (("(a:16:16:16", syntax_fault(11)), ("a:16:16:17", check_fault("number", 8)),
                               ("a:16:16:16^16^16^16", check_fault("events", 0))):
            for function, *arguments in CALLS:
                self.assertEqual(fault_of(function, pattern, *arguments), fault)
            for function in (first_difference, are_equal):
                for other in ("a", "a:16:16:16"):
                    self.assertEqual(fault_of(function, pattern, other), fault)
                    self.assertEqual(fault_of(function, other, pattern), fault)

    def test_faults_of_two_patterns(self):
        for function in (first_difference, are_equal):
            self.assertEqual(fault_of(function, "(a", "(a b"), syntax_fault(2))
            self.assertEqual(fault_of(function, "(a b", "(a"), syntax_fault(4))
            self.assertEqual(fault_of(function, "a^0", "(a b)^0"), check_fault("number", 2))
            self.assertEqual(fault_of(function, "(a b)^0", "a^0"), check_fault("number", 6))
            self.assertEqual(fault_of(function, "(a", "a^0"), syntax_fault(2))
            # The interface lists SyntaxFault before CheckFault.
            self.assertEqual(fault_of(function, "a^0", "(a"), syntax_fault(2))
            for value in STRANGE:
                if not isinstance(value, str):
                    self.assertEqual(fault_of(function, value, "a:16:16:16"), syntax_fault(0))
                    self.assertEqual(fault_of(function, "a:16:16:16", value), syntax_fault(0))

    def test_other_faults_come_before(self):
        for pattern in BEYOND:
            for value in STRANGE:
                self.assertEqual(fault_of(count_events, pattern, value, HUGE), INVALID_CYCLE)
                self.assertEqual(fault_of(count_events, pattern, 0, value), INVALID_CYCLE)
                self.assertEqual(fault_of(nth_event, pattern, value), INVALID_NUMBER)
                self.assertEqual(fault_of(next_event, pattern, "a", value), INVALID_CYCLE)
                if value != "a":
                    self.assertEqual(fault_of(next_event, pattern, value, 0), INVALID_WORD)
                    self.assertEqual(fault_of(next_event, pattern, value, value), INVALID_WORD)
            self.assertEqual(fault_of(count_events, pattern, 2, 1), INVALID_CYCLE)


if __name__ == "__main__":
    unittest.main()
