"""Points 5, 7 and 8: patterns in many different forms that mean the same by the rules of point 5."""

import random
import unittest
from math import lcm

from cyclebeat.events import cycle_events, sounding_events, window_events
from cyclebeat.periods import (are_equal, average_events, count_events, find_period, first_difference, next_event,
                               nth_event, tabulate, word_shares)
from tests.forms import far_form, same_events
from tests.tables import bound_of, changed, small_tree
from tests.trees import canonical, is_valid, join_tokens, tokens_of

HUGE = 10 ** 18


class FormTest(unittest.TestCase):
    def setUp(self):
        self.rng = random.Random(70)

    def another(self, tree):
        return far_form(self.rng, tree, self.rng.randint(1, 10), 120)

    def text(self, tree):
        return join_tokens(tokens_of(tree), self.rng)[0]

    def forms(self, many):
        """Return pairs of texts of the same tree in different forms."""
        for _ in range(many):
            tree = small_tree(self.rng, 8, 24)
            yield self.text(self.another(tree)), self.text(self.another(tree))

    def test_the_forms_themselves(self):
        for _ in range(150):
            tree = small_tree(self.rng, 8, 24)
            form = self.another(tree)
            self.assertTrue(same_events(tree, form, [*range(max(bound_of(tree), bound_of(form))), HUGE]), (tree, form))

    def test_events(self):
        for first, second in self.forms(250):
            for cycle in (0, 1, self.rng.randrange(50), HUGE - self.rng.randrange(50), HUGE):
                self.assertEqual(cycle_events(first, cycle), cycle_events(second, cycle), (first, second, cycle))
            start = self.rng.randrange(100) * 7 + 1
            window = ((start, 7), (start + 21, 7))
            self.assertEqual(window_events(first, *window), window_events(second, *window), (first, second, window))
            self.assertEqual(sounding_events(first, (start, 7)), sounding_events(second, (start, 7)), (first, second))

    def test_periods_and_averages(self):
        for first, second in self.forms(300):
            self.assertEqual(find_period(first), find_period(second), (first, second))
            self.assertEqual(tabulate(first), tabulate(second), (first, second))
            self.assertEqual(average_events(first), average_events(second), (first, second))

    def test_numbers_of_events(self):
        for first, second in self.forms(200):
            start, end = sorted((self.rng.randrange(HUGE), self.rng.randrange(HUGE)))
            self.assertEqual(count_events(first, start, end), count_events(second, start, end), (first, second))
            number = self.rng.randrange(HUGE)
            self.assertEqual(nth_event(first, number), nth_event(second, number), (first, second, number))
            self.assertEqual(word_shares(first), word_shares(second), (first, second))
            for word, _, _ in word_shares(first):
                self.assertEqual(next_event(first, word, start), next_event(second, word, start), (first, second))

    def test_differences(self):
        many = 0
        while many < 300:
            tree = small_tree(self.rng, 8, 12)
            other = self.rng.choice((tree, changed(self.rng, tree), small_tree(self.rng, 4, 12)))
            forms = [self.another(tree), self.another(other)]
            if is_valid(other) and max(lcm(bound_of(tree), bound_of(other)), lcm(*map(bound_of, forms))) <= 1000:
                many += 1
                expected = None if tree == other else first_difference(canonical(tree), canonical(other))
                texts = [self.text(form) for form in forms]
                self.assertEqual(first_difference(*texts), expected, texts)
                self.assertIs(are_equal(*texts), expected is None, texts)


if __name__ == "__main__":
    unittest.main()
