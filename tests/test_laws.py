"""Points 5 and 6 together, by the program's own results."""

import random
import unittest
from fractions import Fraction

from cyclebeat.events import cycle_events, sounding_events, window_events
from tests.oracle import as_fractions, as_pair, as_pairs
from tests.trees import canonical, is_valid, valid_tree

HUGE = 10 ** 18


def some_cycles(rng):
    return [0, 1, rng.randrange(2, 50), HUGE - 1 - rng.randrange(100), HUGE - 1]


def merged(*lists):
    return as_pairs(sorted(event for events in lists for event in as_fractions(events)))


def at_times(events, cycle):
    """Return events of a cycle with their times instead of their offsets."""
    return as_pairs([(cycle + start, length, word) for start, length, word in as_fractions(events)])


class LawTest(unittest.TestCase):
    def setUp(self):
        self.rng = random.Random(17)

    def random_trees(self, many):
        """Return random trees that leave room for some units around them."""
        return [valid_tree(self.rng, self.rng.randint(1, 14), 8, 6, 12) for _ in range(many)]

    def assert_same_events(self, first, second):
        for cycle in some_cycles(self.rng):
            self.assertEqual(cycle_events(first, cycle), cycle_events(second, cycle), (first, second, cycle))

    def test_layers_add_up(self):
        for tree, other in zip(self.random_trees(200), self.random_trees(200)):
            if not is_valid(("stack", (tree, other))):
                continue
            first, second = canonical(tree), canonical(other)
            for cycle in some_cycles(self.rng):
                both = merged(cycle_events(first, cycle), cycle_events(second, cycle))
                self.assertEqual(cycle_events("[" + first + " + " + second + "]", cycle), both)
                self.assertEqual(cycle_events("[" + second + "+" + first + "]", cycle), both)

    def test_reversing_twice_changes_nothing(self):
        for tree in self.random_trees(200):
            text = canonical(tree)
            self.assert_same_events("mirror(mirror(" + text + "))", text)

    def test_speeding_up_and_slowing_down_changes_nothing(self):
        for tree in self.random_trees(200):
            number = self.rng.randint(1, 16)
            if is_valid(("fast", number, tree)):
                text = canonical(tree)
                self.assert_same_events(text + "^" + str(number) + ":" + str(number), text)
                self.assert_same_events(text + ":" + str(number) + "^" + str(number), text)

    def test_a_word_in_a_sequence_of_itself_is_faster(self):
        for number in range(1, 17):
            self.assert_same_events("(" + "kick " * number + ")", "kick^" + str(number))

    def test_turns_sped_up_are_a_sequence(self):
        for trees in zip(self.random_trees(60), self.random_trees(60), self.random_trees(60)):
            if is_valid(("seq", trees)) and is_valid(("fast", 3, ("turn", trees))):
                texts = " ".join(canonical(tree) for tree in trees)
                self.assert_same_events("{" + texts + "}^3", "(" + texts + ")")

    def test_shifts_add_up(self):
        for tree in self.random_trees(200):
            text = canonical(tree)
            divisor = self.rng.choice((1, 2, 8, 12, 64))
            first, second = self.rng.randrange(divisor), self.rng.randrange(divisor)
            twice = "late(%d/%d, late(%d/%d, %s))" % (first, divisor, second, divisor, text)
            once = "late(%d/%d, %s)" % ((first + second) % divisor, divisor, text)
            turns = (first + second) // divisor
            for cycle in some_cycles(self.rng):
                if cycle >= turns:
                    self.assertEqual(cycle_events(twice, cycle), cycle_events(once, cycle - turns), (twice, cycle))

    def test_a_shift_moves_windows(self):
        for tree in self.random_trees(200):
            text = canonical(tree)
            shift = Fraction(self.rng.randrange(12), 12)
            start = self.rng.choice((0, 3, HUGE - 5)) + Fraction(self.rng.randrange(8), 8)
            end = start + Fraction(self.rng.randrange(16), 9)
            moved = [(time + shift, length, word)
                     for time, length, word in as_fractions(window_events(text, as_pair(start), as_pair(end)))]
            late = "late(%d/%d, %s)" % (*as_pair(shift), text)
            self.assertEqual(window_events(late, as_pair(start + shift), as_pair(end + shift)), as_pairs(moved))

    def test_a_window_of_one_cycle_has_its_events(self):
        for tree in self.random_trees(200):
            text = canonical(tree)
            for cycle in some_cycles(self.rng):
                expected = at_times(cycle_events(text, cycle), cycle)
                self.assertEqual(window_events(text, (cycle, 1), (cycle + 1, 1)), expected, (text, cycle))

    def test_windows_side_by_side_add_up(self):
        for tree in self.random_trees(200):
            text = canonical(tree)
            start = self.rng.choice((0, HUGE - 4)) + Fraction(self.rng.randrange(9), 9)
            middle = start + Fraction(self.rng.randrange(20), 12)
            end = middle + Fraction(self.rng.randrange(20), 15)
            parts = [window_events(text, as_pair(low), as_pair(high)) for low, high in ((start, middle), (middle, end))]
            self.assertEqual(window_events(text, as_pair(start), as_pair(end)), parts[0] + parts[1])

    def test_a_wide_window_has_the_events_of_its_cycles(self):
        for tree in self.random_trees(30):
            text = canonical(tree)
            for first in (0, 5, HUGE - 20):
                cycles = [at_times(cycle_events(text, cycle), cycle) for cycle in range(first, first + 20)]
                self.assertEqual(window_events(text, (first, 1), (first + 20, 1)), sum(cycles, []))

    def test_what_lasts_from_within_a_window(self):
        for tree in self.random_trees(300):
            text = canonical(tree)
            start = self.rng.choice((0, 7, HUGE - 9)) + Fraction(self.rng.randrange(6), 6)
            moment = start + Fraction(self.rng.randrange(60), 16)
            started = [event for event in as_fractions(window_events(text, as_pair(start), as_pair(moment)))
                       if event[0] + event[1] > moment]
            started += [event for event in as_fractions(cycle_events_at(text, moment)) if event[0] == moment]
            lasting = [event for event in as_fractions(sounding_events(text, as_pair(moment))) if event[0] >= start]
            self.assertEqual(lasting, sorted(started), (text, start, moment))

    def test_what_lasts_from_before_a_window(self):
        for tree in self.random_trees(300):
            text = canonical(tree)
            start = self.rng.choice((0, 7, HUGE - 9)) + Fraction(self.rng.randrange(6), 6)
            moment = start + Fraction(self.rng.randrange(60), 16)
            before = [event for event in as_fractions(sounding_events(text, as_pair(start)))
                      if event[0] < start and event[0] + event[1] > moment]
            lasting = [event for event in as_fractions(sounding_events(text, as_pair(moment))) if event[0] < start]
            self.assertEqual(lasting, before, (text, start, moment))


def cycle_events_at(text, moment):
    """Return the events of the cycle of a moment, with their times."""
    cycle = moment.numerator // moment.denominator
    return at_times(cycle_events(text, cycle), cycle)


if __name__ == "__main__":
    unittest.main()
