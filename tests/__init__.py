"""The tests of cyclebeat. What they expect is computed here, without the program."""
