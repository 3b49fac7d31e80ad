"""Point 1: repeated calls give the same, whatever is asked in between, and whatever callers do with what they got."""

import copy
import random
import unittest

from cyclebeat.builder import build_pattern
from cyclebeat.encoding import decode, encode
from cyclebeat.events import cycle_events, sounding_events, window_events
from cyclebeat.formatter import format_pattern, measure
from cyclebeat.looper import Looper, replay
from cyclebeat.periods import (are_equal, average_events, count_events, find_period, first_difference, next_event,
                               nth_event, tabulate, word_shares)
from cyclebeat.session import format_session, parse_session
from cyclebeat.simplifier import simplify
from tests.faults import fault_of
from tests.loops import Model, outcome, random_operation, successful_operations, whole_state
from tests.tables import bound_of, changed, small_tree
from tests.trees import canonical, is_valid

HUGE = 10 ** 18
WAYS = (
    lambda text, cycle: cycle_events(text, cycle),
    lambda text, cycle: window_events(text, (2 * cycle + 1, 2), (cycle + 3, 1)),
    lambda text, cycle: sounding_events(text, (3 * cycle + 1, 3)),
    lambda text, cycle: count_events(text, cycle, cycle + 5),
    lambda text, cycle: nth_event(text, cycle),
    lambda text, cycle: next_event(text, "a", cycle),
)


def spoil(value):
    """Change a list that was returned, and the lists within it."""
    if isinstance(value, list):
        for item in value:
            spoil(item)
        value.reverse()
        value.append("spoilt")


def all_answers(text, other):
    """Return what the functions say of a pattern, and of it and another one."""
    code = encode(text)
    looper = Looper()
    looper.put("a", text)
    looper.nudge("a", (1, 2))
    return [format_pattern(text), measure(text), find_period(text), tabulate(text), average_events(text),
            word_shares(text), simplify(text), encode(text), decode(code), first_difference(text, other),
            are_equal(text, other), looper.events(1), looper.layers(), looper.operations(), looper.mix(),
            looper.batch([("mute", "a"), ("undo",)]), *[way(text, 7) for way in WAYS]]


class PatternTest(unittest.TestCase):
    def setUp(self):
        self.rng = random.Random(10)

    def random_pair(self):
        while True:
            tree = small_tree(self.rng, 9, 12)
            other = changed(self.rng, tree)
            if is_valid(other) and bound_of(tree) * bound_of(other) <= 1000:
                return canonical(tree), canonical(other)

    def test_two_patterns_used_alternately(self):
        for _ in range(60):
            first, second = self.random_pair()
            expected = {text: copy.deepcopy(all_answers(text, first)) for text in (first, second)}
            for text in (first, second, second, first, second, first):
                answers = all_answers(text, first)
                self.assertEqual(answers, expected[text], (first, second))
                spoil(answers)

    def test_random_orders(self):
        for _ in range(150):
            texts = self.random_pair()
            cycles = (self.rng.randrange(5), self.rng.randrange(5, 99), HUGE - self.rng.randrange(5, 99))
            questions = [(way, text, cycle) for way in WAYS for text in texts for cycle in cycles]
            expected = {}
            for _ in range(2):
                self.rng.shuffle(questions)
                for way, text, cycle in questions:
                    answer = way(text, cycle)
                    key = (WAYS.index(way), text, cycle)
                    expected.setdefault(key, copy.deepcopy(answer))
                    self.assertEqual(answer, expected[key], key)
                    spoil(answer)

    def test_lists_that_are_passed_may_change_later(self):
        cycles = [[((1, 4), (1, 2), "a")], []]
        pattern = build_pattern(cycles)
        spoil(cycles)
        self.assertEqual(build_pattern([[((1, 4), (1, 2), "a")], []]), pattern)
        code = [67, 5, 2, 2, 2, 1, 1, 0, 0, 80]
        self.assertEqual(decode(code), "(a _)^2")
        spoil(code)
        self.assertEqual(decode([67, 5, 2, 2, 2, 1, 1, 0, 0, 80]), "(a _)^2")

    def test_sessions(self):
        for _ in range(40):
            operations = successful_operations(self.rng, 6)
            kept = list(operations)
            text = format_session(operations)
            looper = replay(operations)
            state = whole_state(looper)
            spoil(parse_session(text))
            spoil(operations)
            self.assertEqual(whole_state(looper), state)
            self.assertEqual(format_session(kept), text)
            self.assertEqual(parse_session(text), kept)
            self.assertEqual(whole_state(replay(kept)), state)


class LooperTest(unittest.TestCase):
    def answers(self, looper):
        fault = fault_of(looper.mix)
        return [looper.layers(), looper.operations(), *[looper.events(cycle) for cycle in (0, 1, HUGE)],
                fault or looper.mix()]

    def test_two_loopers(self):
        rng = random.Random(11)
        for _ in range(120):
            pairs = [(Looper(), Model()), (Looper(), Model())]
            for _ in range(16):
                looper, model = rng.choice(pairs)
                other = pairs[0][0] if looper is pairs[1][0] else pairs[1][0]
                before = whole_state(other)
                operation = random_operation(rng)
                self.assertEqual(outcome(looper, operation), model.outcome(operation))
                if rng.random() < 0.2:
                    looper.save("s")
                    model.save("s")
                elif "s" in model.saved and rng.random() < 0.2:
                    looper.restore("s")
                    model.restore("s")
                self.assertEqual(whole_state(other), before)
            for looper, model in pairs:
                self.assertEqual(whole_state(looper), whole_state(model))

    def test_answers_that_are_changed(self):
        rng = random.Random(12)
        for _ in range(80):
            looper = replay(successful_operations(rng, 8))
            state = copy.deepcopy(whole_state(looper))
            expected = copy.deepcopy(self.answers(looper))
            for _ in range(3):
                answers = self.answers(looper)
                self.assertEqual(answers, expected)
                spoil(answers)
                spoil(whole_state(looper))
            self.assertEqual(whole_state(looper), state)

    def test_snapshots_of_two_loopers(self):
        first, second = Looper(), Looper()
        first.put("a", "x")
        first.save("s")
        second.save("s")
        second.put("a", "y")
        first.restore("s")
        self.assertEqual(first.layers(), [("a", "x", (0, 1), False)])
        second.restore("s")
        self.assertEqual(second.layers(), [])


if __name__ == "__main__":
    unittest.main()
