"""Threads that no tick ever meets."""

from math import gcd

from timekernel.checks import check_rate, check_tick, is_at_least, is_within
from timekernel.errors import NoQuantum, NoThread

MOST_THREADS = 40


def never_sampled(rate, tick, quantum, many):
    """The indexes of the threads that never run when a tick begins, if they take turns from count 0 on."""
    check_rate(rate)
    check_tick(tick)
    if not is_at_least(quantum, 1):
        raise NoQuantum("threads take turns by a quantum, an integer >= 1")
    if not is_within(many, 1, MOST_THREADS):
        raise NoThread("the number of threads is an integer from 1 to 40")
    mult, shift = rate
    # Tick n begins at the count n * (tick << shift) / mult, rounded up. Over all
    # n, what these parts leave beyond whole rounds of turns is each multiple
    # of their common divisor.
    unit = gcd(tick << shift, quantum * many * mult)
    return [thread for thread in range(many) if not is_met(thread * quantum, quantum, mult, unit)]


def is_met(begin, quantum, mult, unit):
    """Whether a multiple of so many parts, in counts and rounded up, lies in the turn that begins at a count."""
    return (begin - 1) * mult // unit < (begin + quantum - 1) * mult // unit
