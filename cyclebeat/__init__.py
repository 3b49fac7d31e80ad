"""Cyclebeat: patterns of events over cycles of time."""
