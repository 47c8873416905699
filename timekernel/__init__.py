"""Timekernel: clocks and timers that do not depend on looks."""
