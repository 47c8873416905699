"""Rates: from cycles to readings by a multiplier and a shift."""

from timekernel.checks import MOST_MULT, check_cycle, check_rate, check_reading_from_zero, check_shift
from timekernel.checks import check_width, is_at_least, is_integer
from timekernel.errors import NoRate, NoReading

GREATEST_BEST_SHIFT = 32


def rate_reading(rate, cycles):
    """What a rate reads after a number of cycles."""
    check_rate(rate)
    check_cycle(cycles)
    mult, shift = rate
    return cycles * mult >> shift


def first_cycle(rate, reading):
    """The least number of cycles after which a rate reads at least `reading`."""
    check_rate(rate)
    check_reading_from_zero(reading)
    mult, shift = rate
    return ((reading << shift) + mult - 1) // mult


def best_rate(frequency, units, most):
    """The rate of the greatest shift that neither drops to 0 nor overflows 64 bits after `most` cycles."""
    for number in (frequency, units, most):
        if not is_at_least(number, 1):
            raise NoRate("a frequency, its units and the most cycles are integers >= 1")
    for shift in reversed(range(GREATEST_BEST_SHIFT + 1)):
        mult = (units << shift) // frequency
        if mult >= 1 and mult * most <= MOST_MULT:
            return (mult, shift)
    return None


def longest_span(width, rate):
    """The greatest number of cycles that may lie between two looks."""
    check_width(width)
    check_rate(rate)
    return min((1 << width) - 1, MOST_MULT // rate[0])


def check_seen(seen):
    if not isinstance(seen, list) or not seen:
        raise NoReading("what was seen is a list that is not empty")
    for row in seen:
        if not isinstance(row, tuple) or len(row) != 2:
            raise NoReading("what was seen are tuples (cycle, reading)")
        if not is_at_least(row[0], 0) or not is_integer(row[1]):
            raise NoReading("a cycle is an integer >= 0, a reading an integer")


def rates_seen(shift, seen):
    """Which multipliers explain all the readings that were seen, or from which of them on none does."""
    check_shift(shift)
    check_seen(seen)
    bounds = (1, None)
    for many in range(1, len(seen)):
        for k in range(many):
            bounds = narrowed(bounds, seen[k], seen[many], 1 << shift)
            if bounds is None:
                return ("none", many + 1)
    least, greatest = bounds
    return ("rates", least, greatest)


def narrowed(bounds, one, other, unit):
    """The multipliers within bounds that explain two tuples (cycle, reading), or None if there are none."""
    # Some base explains all tuples if one explains each two of them: each
    # tuple leaves an interval of bases, and intervals that meet in pairs meet.
    cycles = abs(other[0] - one[0])
    units = other[1] - one[1] if other[0] >= one[0] else one[1] - other[1]
    if cycles == 0:
        return bounds if units == 0 else None
    # Two values whose readings differ by so many units differ by more than
    # one unit less, and by less than one unit more.
    least = max(bounds[0], (units - 1) * unit // cycles + 1)
    greatest = ((units + 1) * unit - 1) // cycles
    if bounds[1] is not None:
        greatest = min(greatest, bounds[1])
    return (least, greatest) if least <= greatest else None
