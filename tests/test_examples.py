"""The examples of the interface, with their answers and errors as written."""

import unittest

from cyclebeat.builder import build_pattern
from cyclebeat.encoding import decode, encode
from cyclebeat.events import cycle_events, sounding_events, window_events
from cyclebeat.formatter import format_pattern, measure
from cyclebeat.looper import Looper, replay
from cyclebeat.periods import (are_equal, average_events, count_events, find_period, first_difference, next_event,
                               nth_event, tabulate, word_shares)
from cyclebeat.session import format_session, parse_session
from cyclebeat.simplifier import simplify
from tests.faults import (UNKNOWN_NAME, check_fault, fault_of, invalid_code, invalid_events, invalid_operation,
                          invalid_session, syntax_fault)


class ExampleTest(unittest.TestCase):
    def test_format_pattern(self):
        self.assertEqual(format_pattern("( a  [b + c] )^2"), "(a [b + c])^2")

    def test_format_pattern_that_ends_too_early(self):
        self.assertEqual(fault_of(format_pattern, "(a b"), syntax_fault(4))

    def test_format_pattern_with_a_wrong_number(self):
        self.assertEqual(fault_of(format_pattern, "(a b)^0"), check_fault("number", 6))

    def test_measure(self):
        self.assertEqual(measure("(a mirror(b))^2"), 4)

    def test_cycle_events(self):
        self.assertEqual(cycle_events("(a {b c})", 1), [((0, 1), (1, 2), "a"), ((1, 2), (1, 2), "c")])

    def test_cycle_events_of_late_and_mirror(self):
        self.assertEqual(cycle_events("late(1/4, mirror((a b)))", 0), [((1, 4), (1, 2), "b"), ((3, 4), (1, 2), "a")])

    def test_window_events(self):
        self.assertEqual(window_events("(a b)", (1, 2), (3, 2)), [((1, 2), (1, 2), "b"), ((1, 1), (1, 2), "a")])

    def test_sounding_events(self):
        self.assertEqual(sounding_events("[a:2 + (b c)]", (5, 4)), [((0, 1), (2, 1), "a"), ((1, 1), (1, 2), "b")])

    def test_find_period(self):
        self.assertEqual(find_period("(a {b c d})"), 3)

    def test_tabulate(self):
        self.assertEqual(tabulate("{a _}"), [[((0, 1), (1, 1), "a")], []])

    def test_first_difference(self):
        self.assertEqual(first_difference("{a b}", "{a b a}"), (3, (0, 1), (1, 1), "a", 1))

    def test_first_difference_of_equal_patterns(self):
        self.assertIsNone(first_difference("{(a b) (a c)}", "(a {b c})"))

    def test_are_equal(self):
        self.assertIs(are_equal("(a a)", "a^2"), True)

    def test_count_events(self):
        self.assertEqual(count_events("{a _ (b b)}", 1, 8), 6)

    def test_nth_event(self):
        self.assertEqual(nth_event("{a _ (b b)}", 5), (5, (1, 2), (1, 2), "b"))

    def test_average_events(self):
        self.assertEqual(average_events("{a (b b)}"), (3, 2))

    def test_next_event(self):
        self.assertEqual(next_event("{a _ (b c)}", "c", 3), (5, (1, 2), (1, 2)))

    def test_word_shares(self):
        self.assertEqual(word_shares("{a (b b a)}"), [("a", 2, (4, 3)), ("b", 2, (2, 3))])

    def test_simplify(self):
        self.assertEqual(simplify("[(a) + _ + mirror(mirror((b c)))]^1"), "[a + (b c)]")

    def test_build_pattern(self):
        pattern = build_pattern([[((1, 4), (1, 2), "a")], []])
        self.assertEqual([cycle_events(pattern, 0), cycle_events(pattern, 1)], [[((1, 4), (1, 2), "a")], []])

    def test_build_pattern_with_an_invalid_cycle(self):
        self.assertEqual(fault_of(build_pattern, [[], [5]]), invalid_events(1))

    def test_encode(self):
        self.assertEqual(encode("(a _)^2"), [67, 5, 2, 2, 2, 1, 1, 0, 0, 80])

    def test_decode(self):
        self.assertEqual(decode([67, 5, 2, 2, 2, 1, 1, 0, 0, 80]), "(a _)^2")

    def test_decode_with_an_invalid_number(self):
        self.assertEqual(fault_of(decode, [67, 5, 17]), invalid_code(2))

    def test_format_session(self):
        operations = [("put", "a", "(x y)"), ("nudge", "a", (1, 4))]
        self.assertEqual(format_session(operations), "put a (x y)\nnudge a 1/4")

    def test_parse_session(self):
        self.assertEqual(parse_session("put a (x y)\nmute a"), [("put", "a", "(x y)"), ("mute", "a")])

    def test_parse_session_with_an_invalid_line(self):
        self.assertEqual(fault_of(parse_session, "put a x\nmute"), invalid_session(1))

    def test_functions_are_defined_where_they_are_listed(self):
        for function in (format_pattern, measure):
            self.assertEqual(function.__module__, "cyclebeat.formatter")
        for function in (cycle_events, window_events, sounding_events):
            self.assertEqual(function.__module__, "cyclebeat.events")
        for function in (find_period, tabulate, first_difference, are_equal, count_events, nth_event, average_events,
                         next_event, word_shares):
            self.assertEqual(function.__module__, "cyclebeat.periods")
        self.assertEqual(simplify.__module__, "cyclebeat.simplifier")
        self.assertEqual(build_pattern.__module__, "cyclebeat.builder")
        for function in (encode, decode):
            self.assertEqual(function.__module__, "cyclebeat.encoding")
        for thing in (Looper, replay):
            self.assertEqual(thing.__module__, "cyclebeat.looper")
        for function in (format_session, parse_session):
            self.assertEqual(function.__module__, "cyclebeat.session")

    def test_arguments_have_the_names_of_the_interface(self):
        self.assertEqual(format_pattern(pattern="a"), "a")
        self.assertEqual(measure(pattern="a"), 1)
        whole = [((0, 1), (1, 1), "a")]
        self.assertEqual(cycle_events(pattern="a", cycle=0), whole)
        self.assertEqual(window_events(pattern="a", start=(0, 1), end=(1, 1)), whole)
        self.assertEqual(sounding_events(pattern="a", time=(1, 2)), whole)

    def test_arguments_of_periods_have_the_names_of_the_interface(self):
        self.assertEqual(find_period(pattern="a"), 1)
        self.assertEqual(tabulate(pattern="_"), [[]])
        self.assertIsNone(first_difference(first="a", second="a"))
        self.assertIs(are_equal(first="a", second="a"), True)
        self.assertEqual(count_events(pattern="a", start=0, end=2), 2)
        self.assertEqual(nth_event(pattern="a", number=1), (1, (0, 1), (1, 1), "a"))
        self.assertEqual(average_events(pattern="a"), (1, 1))
        self.assertEqual(next_event(pattern="a", word="a", cycle=1), (1, (0, 1), (1, 1)))
        self.assertEqual(word_shares(pattern="_"), [])
        self.assertEqual(simplify(pattern="(a)"), "a")
        self.assertEqual(cycle_events(build_pattern(cycles=[[]]), 0), [])

    def test_arguments_of_codes_and_sessions_have_the_names_of_the_interface(self):
        self.assertEqual(encode(pattern="_"), [67, 0, 67])
        self.assertEqual(decode(code=[67, 0, 67]), "_")
        self.assertEqual(replay(operations=[("put", "a", "x")]).operations(), ["put"])
        self.assertEqual(format_session(operations=[("undo",)]), "undo")
        self.assertEqual(parse_session(text="undo"), [("undo",)])


class LooperExampleTest(unittest.TestCase):
    def setUp(self):
        self.looper = Looper()
        self.looper.put("a", "(x y)")

    def test_remove(self):
        self.assertEqual(fault_of(self.looper.remove, "b"), UNKNOWN_NAME)

    def test_mute(self):
        self.assertEqual([self.looper.mute("a"), self.looper.events(0)], [True, []])

    def test_nudge(self):
        self.looper.nudge("a", (1, 4))
        self.assertEqual(self.looper.events(0), [((1, 4), (1, 2), "x", "a"), ((3, 4), (1, 2), "y", "a")])

    def test_undo(self):
        self.assertEqual([self.looper.undo(), self.looper.layers(), self.looper.undo()], [True, [], False])

    def test_redo(self):
        self.looper.undo()
        self.assertEqual([self.looper.redo(), self.looper.operations()], [True, ["put"]])

    def test_events(self):
        self.assertEqual(self.looper.events(3), [((0, 1), (1, 2), "x", "a"), ((1, 2), (1, 2), "y", "a")])

    def test_mix(self):
        self.assertIs(are_equal(self.looper.mix(), "(x y)"), True)

    def test_layers(self):
        self.assertEqual(self.looper.layers(), [("a", "(x y)", (0, 1), False)])

    def test_operations(self):
        self.looper.mute("a")
        self.assertEqual(self.looper.operations(), ["put", "mute"])

    def test_save_and_restore(self):
        self.looper.save("s")
        self.looper.remove("a")
        self.looper.restore("s")
        self.assertEqual(self.looper.operations(), ["put"])

    def test_batch(self):
        self.assertEqual(self.looper.batch([("mute", "a"), ("undo",)]), [True, True])

    def test_batch_with_a_malformed_entry(self):
        self.assertEqual(fault_of(self.looper.batch, [("mute", "a"), ("mute",)]), invalid_operation(1))

    def test_replay(self):
        looper = replay([("put", "a", "x")])
        self.assertEqual(looper.operations(), ["put"])


if __name__ == "__main__":
    unittest.main()
