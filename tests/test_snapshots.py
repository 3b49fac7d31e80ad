"""Point 15: snapshots of the complete state."""

import random
import unittest

from cyclebeat.looper import Looper
from tests.faults import UNKNOWN_NAME, fault_of
from tests.loops import Model, outcome, random_operation, whole_state

SNAPSHOTS = ("s", "t", "late")


class RandomSnapshotTest(unittest.TestCase):
    def test_random_operations(self):
        rng = random.Random(152)
        restored = 0
        for _ in range(250):
            looper, model = Looper(), Model()
            for _ in range(rng.randint(4, 24)):
                name = rng.choice(SNAPSHOTS)
                way = rng.random()
                if way < 0.15:
                    self.assertIsNone(looper.save(name))
                    model.save(name)
                elif way < 0.35 and name in model.saved:
                    self.assertIsNone(looper.restore(name))
                    model.restore(name)
                    restored += 1
                    self.assertEqual(whole_state(looper), whole_state(model))
                elif way < 0.35:
                    self.assertEqual(fault_of(looper.restore, name), UNKNOWN_NAME)
                elif way < 0.5:
                    operations = [random_operation(rng) for _ in range(3)]
                    self.assertEqual(outcome(looper, ("batch", operations)), model.batch(operations))
                else:
                    operation = random_operation(rng)
                    self.assertEqual(outcome(looper, operation), model.outcome(operation))
            self.assertEqual(whole_state(looper), whole_state(model))
        self.assertGreater(restored, 100)


class SnapshotTest(unittest.TestCase):
    def setUp(self):
        self.looper = Looper()
        self.looper.put("a", "x")
        self.looper.put("b", "y")
        self.looper.mute("a")
        self.looper.undo()
        self.looper.save("s")
        self.state = whole_state(self.looper)

    def test_the_complete_state_is_restored(self):
        for operations in ([("mute", "b")], [("redo",)], [("undo",), ("undo",)], [("undo",), ("put", "c", "z")],
                           [("remove", "a"), ("remove", "b")], [("redo",), ("nudge", "a", (1, 2)), ("undo",)], []):
            self.looper.batch(operations)
            self.assertIsNone(self.looper.restore("s"))
            self.assertEqual(whole_state(self.looper), self.state, operations)

    def test_restoring_is_no_operation(self):
        self.looper.redo()
        self.looper.restore("s")
        self.assertEqual(self.looper.operations(), ["put", "put"])
        self.assertIs(self.looper.undo(), True)
        self.assertEqual(self.looper.operations(), ["put"])

    def test_saving_is_no_operation(self):
        self.looper.save("t")
        self.assertEqual(whole_state(self.looper), self.state)
        self.assertIs(self.looper.redo(), True)

    def test_redo_after_restore(self):
        self.looper.put("c", "z")
        self.assertIs(self.looper.redo(), False)
        self.looper.restore("s")
        self.assertIs(self.looper.redo(), True)
        self.assertEqual(self.looper.operations(), ["put", "put", "mute"])

    def test_a_snapshot_is_replaced(self):
        self.looper.remove("a")
        self.looper.save("s")
        state = whole_state(self.looper)
        self.looper.undo()
        self.looper.restore("s")
        self.assertEqual(whole_state(self.looper), state)

    def test_snapshots_are_no_part_of_the_state(self):
        self.looper.remove("a")
        self.looper.save("t")
        later = whole_state(self.looper)
        self.looper.restore("s")
        self.looper.restore("t")
        self.assertEqual(whole_state(self.looper), later)
        while self.looper.undo():
            pass
        self.looper.restore("s")
        self.assertEqual(whole_state(self.looper), self.state)

    def test_a_batch_that_fails_leaves_snapshots_alone(self):
        self.assertEqual(fault_of(self.looper.batch, [("remove", "a"), ("mute", "c")]), UNKNOWN_NAME)
        self.looper.restore("s")
        self.assertEqual(whole_state(self.looper), self.state)

    def test_a_restored_state_may_be_changed_and_restored_again(self):
        for _ in range(3):
            self.looper.restore("s")
            self.assertEqual(whole_state(self.looper), self.state)
            self.looper.mute("b")
            self.looper.nudge("b", (1, 5))
            self.looper.undo()

    def test_an_empty_looper(self):
        looper = Looper()
        looper.save("abcdefgh")
        looper.put("a", "x")
        looper.restore("abcdefgh")
        self.assertEqual(whole_state(looper), whole_state(Looper()))

    def test_names_of_layers_and_snapshots_are_apart(self):
        self.looper.save("a")
        self.looper.remove("a")
        self.looper.restore("a")
        self.assertEqual(whole_state(self.looper), self.state)
        self.assertEqual(fault_of(self.looper.restore, "b"), UNKNOWN_NAME)
        self.assertEqual(fault_of(self.looper.mute, "s"), UNKNOWN_NAME)

    def test_snapshots_of_other_loopers(self):
        self.assertEqual(fault_of(Looper().restore, "s"), UNKNOWN_NAME)


if __name__ == "__main__":
    unittest.main()
