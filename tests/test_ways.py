"""Points 14, 15 and 16 together: the same operations in different ways, and what repeats and undoes itself."""

import random
import unittest

from cyclebeat.events import cycle_events
from cyclebeat.looper import Looper, replay
from cyclebeat.session import format_session, parse_session
from tests.faults import fault_of
from tests.loops import model_after, outcome, random_operation, successful_operations, whole_state
from tests.oracle import as_fractions, as_pairs

HUGE = 10 ** 18


class WayTest(unittest.TestCase):
    def setUp(self):
        self.rng = random.Random(162)

    def test_one_by_one_as_a_list_replayed_and_from_a_session(self):
        for _ in range(250):
            operations = successful_operations(self.rng, self.rng.randint(0, 14))
            first, second = Looper(), Looper()
            results = [outcome(first, operation)[0] for operation in operations]
            self.assertEqual(second.batch(operations), results)
            read = parse_session(format_session(operations))
            third = Looper()
            self.assertEqual(third.batch(read), results)
            for looper in (second, third, replay(operations), replay(read)):
                self.assertEqual(whole_state(looper), whole_state(first), operations)
                for cycle in (0, 1, self.rng.randrange(50), HUGE):
                    self.assertEqual(looper.events(cycle), first.events(cycle), operations)
                self.assertEqual(fault_of(looper.mix), fault_of(first.mix), operations)
                if fault_of(looper.mix) is None:
                    self.assertEqual(looper.mix(), first.mix())
            self.assertEqual(whole_state(first), whole_state(model_after(operations)))

    def test_a_list_in_parts(self):
        for _ in range(150):
            operations = successful_operations(self.rng, 12)
            cut = self.rng.randint(0, 12)
            looper = replay(operations[:cut])
            rest = looper.batch(operations[cut:])
            self.assertEqual(rest, Looper().batch(operations)[cut:])
            self.assertEqual(whole_state(looper), whole_state(replay(operations)), operations)

    def test_operations_in_effect_make_the_same_layers(self):
        for _ in range(150):
            operations = successful_operations(self.rng, 12)
            effective = model_after(operations).effective
            self.assertEqual(replay(operations).layers(), replay(effective).layers(), operations)
            self.assertEqual(replay(operations).operations(), [operation[0] for operation in effective])

    def test_undoing_all_and_repeating_all(self):
        for _ in range(150):
            operations = successful_operations(self.rng, 12)
            looper = replay(operations)
            state = whole_state(looper)
            many = len(looper.operations())
            self.assertEqual(looper.batch([("undo",)] * many + [("redo",)] * many), [True] * many * 2)
            self.assertEqual(whole_state(looper), state, operations)
            self.assertEqual(looper.batch([("undo",)] * (many + 1))[-1], False)
            self.assertEqual(looper.layers(), [])

    def test_lists_that_fail_are_as_if_they_had_not_been(self):
        for _ in range(150):
            operations = successful_operations(self.rng, 8)
            looper = Looper()
            for operation in operations:
                wrong = [random_operation(self.rng) for _ in range(3)] + [("mute", "nobody")]
                self.assertIsNotNone(fault_of(looper.batch, wrong))
                self.assertIsNone(outcome(looper, operation)[1])
            self.assertEqual(whole_state(looper), whole_state(replay(operations)), operations)

    def test_a_mix_on_a_layer_has_the_same_events(self):
        for _ in range(150):
            looper = replay(successful_operations(self.rng, 10))
            if fault_of(looper.mix) is None:
                mix = looper.mix()
                other = Looper()
                other.put("all", mix)
                self.assertEqual(other.layers(), [("all", mix, (0, 1), False)])
                for cycle in (0, 5, HUGE):
                    events = as_pairs(sorted(as_fractions([event[:3] for event in looper.events(cycle)])))
                    self.assertEqual([event[:3] for event in other.events(cycle)], events)
                    self.assertEqual(cycle_events(mix, cycle), events)


if __name__ == "__main__":
    unittest.main()
