"""Point 15: lists of operations, executed by `batch` and `replay`."""

import copy
import random
import unittest

from cyclebeat.looper import Looper, replay
from tests.faults import (INVALID_NAME, INVALID_TIME, STRANGE, UNKNOWN_NAME, check_fault, fault_of, invalid_operation,
                          syntax_fault)
from tests.loops import (MALFORMED, NO_LISTS, Model, looper_after, model_after, outcome, random_operation,
                         successful_operations, whole_state)

UNDOING = [("undo",), ("undo",), ("redo",)]


def random_operations(rng, most, wrong=0.05):
    return [random_operation(rng, wrong) for _ in range(rng.randint(0, most))]


class RandomBatchTest(unittest.TestCase):
    def setUp(self):
        self.rng = random.Random(150)

    def test_batches(self):
        seen = {}
        for _ in range(250):
            done = successful_operations(self.rng, 4) + UNDOING[:self.rng.randint(0, 3)]
            looper, model = looper_after(done), model_after(done)
            for _ in range(4):
                operations = random_operations(self.rng, 8, 0.02)
                kept = copy.deepcopy(operations)
                before = whole_state(looper)
                expected = model.batch(operations)
                self.assertEqual(outcome(looper, ("batch", operations)), expected, operations)
                self.assertEqual(operations, kept)
                if expected[1]:
                    self.assertEqual(whole_state(looper), before, operations)
                self.assertEqual(whole_state(looper), whole_state(model), operations)
                name = expected[1] and expected[1][0]
                seen[name] = seen.get(name, 0) + 1
        self.assertGreater(seen[None], 100, seen)
        self.assertGreater(seen["UnknownName"], 100, seen)
        self.assertGreater(sum(seen.values()) - seen[None] - seen["UnknownName"], 20, seen)

    def test_malformed_entries(self):
        for _ in range(600):
            looper = looper_after(successful_operations(self.rng, 3) + UNDOING[:self.rng.randint(0, 3)])
            before = whole_state(looper)
            operations = random_operations(self.rng, 6, 0.1)
            for _ in range(self.rng.choice((0, 0, 3))):
                operations.append(self.rng.choice(MALFORMED))
            at = self.rng.randint(0, len(operations))
            operations.insert(at, self.rng.choice(MALFORMED))
            first = min(place for place, entry in enumerate(operations) if any(entry is wrong for wrong in MALFORMED))
            kept = repr(operations)
            self.assertEqual(fault_of(looper.batch, operations), invalid_operation(first), operations)
            self.assertEqual(whole_state(looper), before)
            self.assertEqual(repr(operations), kept)


class BatchTest(unittest.TestCase):
    def setUp(self):
        self.looper = Looper()
        self.looper.put("a", "x")

    def test_results(self):
        operations = [("put", "b", "y"), ("mute", "a"), ("mute", "a"), ("nudge", "b", (1, 4)), ("remove", "a"),
                      ("undo",), ("redo",), ("redo",)]
        results = self.looper.batch(operations)
        self.assertEqual(results, [None, True, False, None, None, True, True, False])
        self.assertIs(type(results), list)
        self.assertEqual(self.looper.layers(), [("b", "y", (1, 4), False)])
        self.assertEqual(self.looper.operations(), ["put", "put", "mute", "mute", "nudge", "remove"])

    def test_no_operations(self):
        self.looper.mute("a")
        self.looper.undo()
        before = whole_state(self.looper)
        self.assertEqual(self.looper.batch([]), [])
        self.assertEqual(whole_state(self.looper), before)

    def test_each_operation_is_undone_by_itself(self):
        self.looper.batch([("put", "b", "y"), ("mute", "a")])
        self.assertIs(self.looper.undo(), True)
        self.assertEqual(self.looper.operations(), ["put", "put"])

    def test_undone_operations_are_kept_when_one_fails(self):
        self.looper.mute("a")
        self.looper.undo()
        before = whole_state(self.looper)
        for operations, fault in (
                ([("put", "b", "y"), ("mute", "c")], UNKNOWN_NAME), ([("redo",), ("remove", "b")], UNKNOWN_NAME),
                ([("undo",), ("mute", "a")], UNKNOWN_NAME), ([("put", "", "(")], INVALID_NAME),
                ([("mute", "a"), ("put", "b", "(")], syntax_fault(1)), ([("nudge", "a", (1, 1))], INVALID_TIME),
                ([("put", "b", "a^0")], check_fault("number", 2)), ([("put", 5, 5), ("mute", "x")], INVALID_NAME)):
            self.assertEqual(fault_of(self.looper.batch, operations), fault, operations)
            self.assertEqual(whole_state(self.looper), before, operations)
        self.assertIs(self.looper.redo(), True)

    def test_what_is_no_list(self):
        for value in NO_LISTS:
            self.assertEqual(fault_of(self.looper.batch, value), invalid_operation(0), value)
            self.assertEqual(fault_of(replay, value), invalid_operation(0), value)

    def test_malformed_entries(self):
        for entry in [*MALFORMED, *STRANGE]:
            for before in ([], [("mute", "a")], [("mute", "c"), ("undo",)]):
                operations = [*before, entry, ("mute",), ("undo",)]
                self.assertEqual(fault_of(self.looper.batch, operations), invalid_operation(len(before)), entry)
                self.assertEqual(self.looper.layers(), [("a", "x", (0, 1), False)])

    def test_arguments_are_not_looked_at_before_they_are_used(self):
        for operation, fault in ((("put", None, None), INVALID_NAME), (("remove", ["a"]), UNKNOWN_NAME),
                                 (("mute", ("a",)), UNKNOWN_NAME), (("nudge", "a", None), INVALID_TIME),
                                 (("put", "a", []), syntax_fault(0))):
            self.assertEqual(fault_of(self.looper.batch, [operation]), fault, operation)
            self.assertEqual(fault_of(self.looper.batch, [operation, ("undo", 1)]), invalid_operation(1), operation)

    def test_returned_lists_are_new(self):
        operations = [("mute", "a"), ("undo",)]
        first = self.looper.batch(operations)
        first.append(None)
        operations.append(("remove", "a"))
        self.assertEqual(self.looper.operations(), ["put"])
        self.assertEqual(self.looper.batch([("mute", "a"), ("undo",)]), [True, True])


class ReplayTest(unittest.TestCase):
    def setUp(self):
        self.rng = random.Random(151)

    def check(self, operations):
        """Check the replay of operations, and return the place of the error, or None."""
        model = Model()
        place = None
        for at, operation in enumerate(operations):
            if any(operation is wrong for wrong in MALFORMED) or model.outcome(operation)[1] is not None:
                place = at
                break
        kept = repr(operations)
        if place is None:
            self.assertEqual(whole_state(replay(operations)), whole_state(model), operations)
        else:
            self.assertEqual(fault_of(replay, operations), invalid_operation(place), operations)
        self.assertEqual(repr(operations), kept)
        return place

    def test_random_operations(self):
        seen = {None: 0}
        for _ in range(400):
            place = self.check(random_operations(self.rng, 12))
            seen[place] = seen.get(place, 0) + 1
        self.assertTrue(seen[None] > 20 and len(seen) > 5, seen)

    def test_operations_that_succeed_until_one_fails(self):
        for _ in range(300):
            many = self.rng.randint(0, 12)
            operations = successful_operations(self.rng, many)
            self.assertIsNone(self.check(operations))
            operations[self.rng.randint(0, many):] = random_operations(self.rng, 6, 0.5)
            self.check(operations)

    def test_malformed_entries(self):
        for _ in range(400):
            operations = successful_operations(self.rng, self.rng.randint(0, 11))
            at = self.rng.randint(0, len(operations))
            operations.insert(at, self.rng.choice(MALFORMED))
            self.assertEqual(self.check(operations), at)

    def test_the_first_of_all_entries_that_are_wrong(self):
        for operations, place in (([("mute",), ("remove", "a")], 0), ([("remove", "a"), ("mute",)], 0),
                                  ([("put", "a", "x"), ("put", "b", "("), 5], 1), ([("undo",), ("redo",), 5], 2),
                                  ([("put", "a", "x"), 5, ("mute", "b")], 1), ([()], 0), ([[]], 0)):
            self.assertEqual(fault_of(replay, operations), invalid_operation(place), operations)

    def test_no_operations(self):
        self.assertEqual(whole_state(replay([])), whole_state(Looper()))
        self.assertIs(type(replay([])), Looper)

    def test_undone_operations_can_be_repeated(self):
        looper = replay([("put", "a", "x"), ("mute", "a"), ("undo",)])
        self.assertEqual(looper.operations(), ["put"])
        self.assertEqual([looper.redo(), looper.redo()], [True, False])
        self.assertEqual(looper.layers(), [("a", "x", (0, 1), True)])

    def test_loopers_are_new(self):
        operations = [("put", "a", "x")]
        first = replay(operations)
        first.mute("a")
        first.save("s")
        second = replay(operations)
        self.assertEqual(second.layers(), [("a", "x", (0, 1), False)])
        self.assertEqual(fault_of(second.restore, "s"), UNKNOWN_NAME)


if __name__ == "__main__":
    unittest.main()
