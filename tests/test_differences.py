"""Point 8: first_difference and are_equal."""

import random
import unittest

from cyclebeat.periods import are_equal, first_difference
from tests.forms import far_form
from tests.tables import bound_of, changed, difference_of, small_tree, swapped
from tests.trees import canonical, is_valid, join_tokens, tokens_of

MOST = 60


class RandomDifferenceTest(unittest.TestCase):
    def check(self, tree, other, rng):
        """Compare two trees in both directions, and return what differs."""
        expected = difference_of(tree, other)
        texts = [join_tokens(tokens_of(item), rng)[0] for item in (tree, other)]
        self.assertEqual(first_difference(*texts), expected, texts)
        self.assertEqual(first_difference(*texts[::-1]), swapped(expected), texts)
        self.assertIs(are_equal(*texts), expected is None, texts)
        self.assertIs(are_equal(*texts[::-1]), expected is None, texts)
        return expected

    def test_random_pairs(self):
        rng = random.Random(40)
        for _ in range(300):
            self.check(small_tree(rng, 6, 12), small_tree(rng, 6, 12), rng)

    def test_pairs_written_differently(self):
        rng = random.Random(41)
        for _ in range(300):
            tree = small_tree(rng, 8, 20)
            self.assertIsNone(self.check(tree, far_form(rng, tree, rng.randint(1, 8), MOST), rng))

    def test_pairs_changed_in_one_place(self):
        rng = random.Random(42)
        seen = {None: 0, "early": 0, "late": 0}
        while sum(seen.values()) < 700:
            tree = small_tree(rng, 9, 24)
            other = changed(rng, tree)
            if rng.random() < 0.5:
                other = far_form(rng, other, 3, MOST)
            if is_valid(other) and bound_of(other) <= MOST:
                found = self.check(tree, other, rng)
                seen[found and ("late" if found[0] else "early")] += 1
        self.assertGreater(min(seen.values()), 60, seen)

    def test_long_turns(self):
        rng = random.Random(43)
        for _ in range(150):
            words = tuple(("word", rng.choice("ab")) for _ in range(rng.randint(1, 3)))
            repeats = [words * rng.randint(1, 4) for _ in range(2)]
            trees = [("turn", repeat[:len(repeat) - rng.randint(0, 1)] or words) for repeat in repeats]
            self.check(trees[0], rng.choice((trees[1], ("stack", (trees[1], ("rest",))))), rng)

    def test_patterns_are_equal_to_themselves(self):
        rng = random.Random(44)
        for _ in range(100):
            text = canonical(small_tree(rng, 20, 200))
            self.assertIsNone(first_difference(text, text))
            self.assertIs(are_equal(text, text), True)


class DifferenceTest(unittest.TestCase):
    def assert_difference(self, first, second, expected):
        self.assertEqual(first_difference(first, second), expected, (first, second))
        self.assertEqual(first_difference(second, first), swapped(expected), (second, first))
        self.assertIs(are_equal(first, second), expected is None)

    def test_the_first_cycle(self):
        self.assert_difference("a", "b", (0, (0, 1), (1, 1), "a", 0))
        self.assert_difference("{a b}", "{a b a}", (3, (0, 1), (1, 1), "a", 1))
        self.assert_difference("{a b c}", "{a b a}", (2, (0, 1), (1, 1), "a", 1))
        self.assert_difference("each(16, a, b)", "b", (0, (0, 1), (1, 1), "a", 0))
        self.assert_difference("each(16, a, b)", "a", (1, (0, 1), (1, 1), "a", 1))
        self.assert_difference("{a a a a a a a a a a b}", "a", (10, (0, 1), (1, 1), "a", 1))

    def test_the_smallest_event(self):
        self.assert_difference("(a b)", "(a c)", (0, (1, 2), (1, 2), "b", 0))
        self.assert_difference("[a + b + c]", "[a + c]", (0, (0, 1), (1, 1), "b", 0))
        self.assert_difference("[a + d]", "[a + b + c]", (0, (0, 1), (1, 1), "b", 1))
        self.assert_difference("[(_ a) + (b _)]", "[(_ a) + c]", (0, (0, 1), (1, 2), "b", 0))
        self.assert_difference("a", "(a _)", (0, (0, 1), (1, 2), "a", 1))
        self.assert_difference("late(1/3, a)", "late(1/2, a)", (0, (1, 3), (1, 1), "a", 0))
        self.assert_difference("late(2/3, {a b})", "late(2/3, {b a})", (0, (2, 3), (1, 1), "a", 0))

    def test_none_or_more_events(self):
        self.assert_difference("_", "a", (0, (0, 1), (1, 1), "a", 1))
        self.assert_difference("_", "{_ _ a}", (2, (0, 1), (1, 1), "a", 1))
        self.assert_difference("a", "[a + a]", (0, (0, 1), (1, 1), "a", 1))
        self.assert_difference("[a + a + a + b]", "[a + a + b + b]", (0, (0, 1), (1, 1), "a", 0))
        self.assert_difference("[a + b]", "[a + a]", (0, (0, 1), (1, 1), "a", 1))
        self.assert_difference("[a + b + b]", "[a + b]", (0, (0, 1), (1, 1), "b", 0))

    def test_equal_patterns(self):
        for first, second in (("_", "(_ _)"), ("{(a b) (a c)}", "(a {b c})"), ("(a a)", "a^2"), ("[a + b]", "[b + a]"),
                              ("a:3^3", "a"), ("{a b}", "(a b):2"), ("{a b}", "each(2, a, b)"), ("_:16", "_^16"),
                              ("mirror((a b))", "(b a)"), ("late(1/2, {(a b) (c d)})", "{(d a) (b c)}"),
                              ("(a _)", "each(2, a, _)^2"), ("{a b a}:1", "late(0/3, {a b a})")):
            self.assert_difference(first, second, None)

    def test_events_that_come_from_before_the_time_0(self):
        self.assert_difference("late(1/2, (_ {a b}))", "({b a} _)", None)
        self.assert_difference("late(1/2, (_ {a b}))", "({a b} _)", (0, (0, 1), (1, 2), "a", 1))

    def test_many_equal_cycles(self):
        self.assert_difference("{a a b}:16:16", "[{a a _}:16:16 + {_ _ b}:16:16]", None)
        self.assert_difference("{a a b}:16:16", "[{a a _}:16:16 + {_ _ c}:16:16]", (512, (0, 1), (256, 1), "b", 0))
        self.assert_difference("each(8, a, a):5:5:5", "{a a a a a a a a a b}:10:10", (0, (0, 1), (100, 1), "a", 1))


if __name__ == "__main__":
    unittest.main()
