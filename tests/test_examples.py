"""The examples of the interface, with their answers and errors as written."""

import unittest

from cyclebeat.events import cycle_events, sounding_events, window_events
from cyclebeat.formatter import format_pattern, measure
from tests.faults import check_fault, fault_of, syntax_fault


class ExampleTest(unittest.TestCase):
    def test_format_pattern(self):
        self.assertEqual(format_pattern("( a  [b + c] )^2"), "(a [b + c])^2")

    def test_format_pattern_that_ends_too_early(self):
        self.assertEqual(fault_of(format_pattern, "(a b"), syntax_fault(4))

    def test_format_pattern_with_a_wrong_number(self):
        self.assertEqual(fault_of(format_pattern, "(a b)^0"), check_fault("number", 6))

    def test_measure(self):
        self.assertEqual(measure("(a mirror(b))^2"), 4)

    def test_cycle_events(self):
        self.assertEqual(cycle_events("(a {b c})", 1), [((0, 1), (1, 2), "a"), ((1, 2), (1, 2), "c")])

    def test_cycle_events_of_late_and_mirror(self):
        self.assertEqual(cycle_events("late(1/4, mirror((a b)))", 0), [((1, 4), (1, 2), "b"), ((3, 4), (1, 2), "a")])

    def test_window_events(self):
        self.assertEqual(window_events("(a b)", (1, 2), (3, 2)), [((1, 2), (1, 2), "b"), ((1, 1), (1, 2), "a")])

    def test_sounding_events(self):
        self.assertEqual(sounding_events("[a:2 + (b c)]", (5, 4)), [((0, 1), (2, 1), "a"), ((1, 1), (1, 2), "b")])

    def test_functions_are_defined_where_they_are_listed(self):
        for function in (format_pattern, measure):
            self.assertEqual(function.__module__, "cyclebeat.formatter")
        for function in (cycle_events, window_events, sounding_events):
            self.assertEqual(function.__module__, "cyclebeat.events")

    def test_arguments_have_the_names_of_the_interface(self):
        self.assertEqual(format_pattern(pattern="a"), "a")
        self.assertEqual(measure(pattern="a"), 1)
        whole = [((0, 1), (1, 1), "a")]
        self.assertEqual(cycle_events(pattern="a", cycle=0), whole)
        self.assertEqual(window_events(pattern="a", start=(0, 1), end=(1, 1)), whole)
        self.assertEqual(sounding_events(pattern="a", time=(1, 2)), whole)


if __name__ == "__main__":
    unittest.main()
