"""Point 7: find_period and tabulate."""

import random
import unittest

from cyclebeat.events import cycle_events
from cyclebeat.periods import find_period, tabulate
from tests.oracle import as_pairs
from tests.tables import bound_of, bounded_tree, one_period, period_of, small_tree
from tests.trees import canonical, join_tokens, tokens_of


class RandomPeriodTest(unittest.TestCase):
    def check(self, tree, text):
        self.assertEqual(find_period(text), period_of(tree), text)
        self.assertEqual(tabulate(text), [as_pairs(row) for row in one_period(tree)], text)

    def test_small_patterns(self):
        rng = random.Random(30)
        shorter = 0
        for _ in range(800):
            tree = small_tree(rng)
            self.check(tree, join_tokens(tokens_of(tree), rng)[0])
            shorter += period_of(tree) < bound_of(tree)
        self.assertGreater(shorter, 50)

    def test_large_patterns(self):
        rng = random.Random(31)
        for _ in range(60):
            tree = bounded_tree(rng, 40, rng.randint(15, 60), 12, 4, 12)
            self.check(tree, canonical(tree))

    def test_few_words(self):
        rng = random.Random(32)
        for _ in range(300):
            items = tuple(("word", rng.choice("ab")) for _ in range(rng.randint(1, 8)))
            tree = rng.choice((("turn", items), ("turn", (("turn", items), ("word", "a"))), ("slow", 2, ("seq", items)),
                               ("each", 2, ("turn", items), ("word", "a")), ("fast", 2, ("turn", items))))
            self.check(tree, canonical(tree))


class PeriodTest(unittest.TestCase):
    def test_periods(self):
        periods = {
            "a": 1, "_": 1, "_:16": 1, "{_ _ _}": 1, "a:3": 3, "a:3:2": 6, "a^16": 1, "{a a}": 1, "{a b}": 2,
            "{a b a b}": 2, "{a b a b a}": 5, "{a b a b a b a b a a}": 10, "{a b a a b a}": 3, "{a b}^2": 1,
            "{a b c}^2": 3, "{a b c d e f}^4": 3, "{a b}:2": 4, "a^2:2": 1, "a:2^2": 1, "a^2:4": 2, "(a a a a):4": 1,
            "each(4, a, b)": 4, "each(4, a, a)": 1, "each(3, {a b}, c)": 6, "each(2, {a b}, {c d})": 2,
            "each(1, {a b}, {c d e})": 2, "late(1/2, {a b})": 2, "mirror({a b c})": 3, "(a {b c d})": 3,
            "{a {b c}}": 4, "[{a b} + {b a}]": 1, "[{a b} + {c d e}]": 6, "({a b} {a b})": 2, "({a b} {b a})": 2,
            "[a:2 + late(1/2, a:2)]": 2, "mirror({a a})": 1, "{(a b) (b a)}": 2, "late(1/2, {(a b) (b a)})": 2,
        }
        for pattern, period in periods.items():
            with self.subTest(pattern=pattern):
                self.assertEqual(find_period(pattern), period)
                self.assertEqual(tabulate(pattern), [cycle_events(pattern, cycle) for cycle in range(period)])

    def test_lengths_and_numbers_of_equal_events_count(self):
        self.assertEqual(find_period("{[a + a] a}"), 2)
        self.assertEqual(find_period("{[a + a] [a + a]}"), 1)
        self.assertEqual(find_period("{(a _) a}"), 2)
        self.assertEqual(find_period("{each(2, a, _)^2 (a _)}"), 1)

    def test_tables(self):
        self.assertEqual(tabulate("_"), [[]])
        self.assertEqual(tabulate("{a a}"), [[((0, 1), (1, 1), "a")]])
        self.assertEqual(tabulate("(a _ b):3"), [[((0, 1), (1, 1), "a")], [], [((0, 1), (1, 1), "b")]])
        self.assertEqual(tabulate("late(1/2, {a (_ b)})"), [
            [((0, 1), (1, 2), "b"), ((1, 2), (1, 1), "a")], []])

    def test_returned_lists_are_new(self):
        first = tabulate("{(a b) a}")
        kept = [list(row) for row in first]
        first[0].append(None)
        first[1].clear()
        first.reverse()
        self.assertEqual(tabulate("{(a b) a}"), kept)
        self.assertIsNot(tabulate("{[a + a] _ _}")[1], tabulate("{[a + a] _ _}")[2])
        table = tabulate("{a _ b _ _}")
        table[1].append("more")
        self.assertEqual(table[3:], [[], []])


if __name__ == "__main__":
    unittest.main()
