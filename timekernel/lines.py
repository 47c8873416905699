"""Lines: what (value + slope * cycle) >> shift reads, and when."""

from timekernel.checks import MOST_SHIFT, check_cycle, check_reading, is_at_least, is_integer, is_within, rounded_up
from timekernel.errors import NoLine
from timekernel.sums import floor_sum


def check_line(line):
    if not isinstance(line, tuple) or len(line) != 3:
        raise NoLine("a line is a tuple (value, slope, shift)")
    value, slope, shift = line
    if not is_integer(value) or not is_at_least(slope, 0) or not is_within(shift, 0, MOST_SHIFT):
        raise NoLine("a line has an integer, an integer >= 0 and a shift from 0 to 64")


def line_reading(line, cycle):
    """What a line reads at a cycle."""
    check_line(line)
    check_cycle(cycle)
    value, slope, shift = line
    return (value + slope * cycle) >> shift


def first_reach(line, reading):
    """The least cycle at which a line reads at least `reading`, or None."""
    check_line(line)
    check_reading(reading)
    value, slope, shift = line
    parts = (reading << shift) - value
    if parts <= 0:
        return 0
    return None if slope == 0 else rounded_up(parts, slope)


def shows_run(line, reading):
    """The first and the last cycle at which a line reads exactly `reading`, or None."""
    first = first_reach(line, reading)
    past = first_reach(line, reading + 1)
    if first is None or first == past:
        return None
    return (first, None if past is None else past - 1)


def first_apart(one, other):
    """The least cycle at which two lines read differently, or None."""
    found = [cycle for cycle in (first_ahead(one, other), first_ahead(other, one)) if cycle is not None]
    return min(found, default=None)


def first_ahead(one, other):
    """The least cycle at which `one` reads more than `other`, or None."""
    check_line(one)
    check_line(other)
    unit = 1 << max(one[2], other[2])
    high = widened(one, unit)
    low = widened(other, unit)
    stretch = stretch_above(high[0] - low[0], high[1] - low[1], unit)
    if stretch is None:
        return None
    start, end = stretch
    high = (high[0] + high[1] * start, high[1])
    low = (low[0] + low[1] * start, low[1])
    many = first_excess(high, low, unit, end - start + 1)
    return None if many is None else start + many - 1


def widened(line, unit):
    """The value and the slope of a line in parts of which so many make a unit."""
    value, slope, shift = line
    return (value * unit >> shift, slope * unit >> shift)


def stretch_above(gap, turn, unit):
    """The cycles from which to which gap + turn * cycle > 0, as far as needed to find a line ahead."""
    if turn > 0:
        # A line that is a whole unit higher reads more.
        start = max(0, -gap // turn + 1)
        return (start, max(start, rounded_up(unit - gap, turn)))
    if gap <= 0:
        return None
    # Two lines of the same slope repeat themselves after as many cycles as a unit has parts.
    return (0, unit - 1) if turn == 0 else (0, (gap - 1) // -turn)


def first_excess(high, low, unit, most):
    """The least number of cycles, up to `most`, in which a line that is nowhere lower reads more, or None."""
    many = 1
    while not is_excess(high, low, unit, many):
        if many == most:
            return None
        many = min(many * 2, most)
    less = many // 2
    while many - less > 1:
        middle = (less + many) // 2
        if is_excess(high, low, unit, middle):
            many = middle
        else:
            less = middle
    return many


def is_excess(high, low, unit, many):
    """Whether the higher line reads more at one of the first cycles: then its readings have a greater sum."""
    return floor_sum(many, unit, high[1], high[0]) > floor_sum(many, unit, low[1], low[0])


def apart_many(one, other, last):
    """At how many cycles less than `last` two lines of the same slope and shift read differently."""
    check_line(one)
    check_line(other)
    if one[1:] != other[1:]:
        raise NoLine("both lines must have the same slope and shift")
    check_cycle(last)
    slope, shift = one[1:]
    unit = 1 << shift
    low, high = sorted([one[0], other[0]])
    if high - low >= unit:
        return last
    # Lines that are less than a unit apart read the same, or one more.
    return floor_sum(last, unit, slope, high) - floor_sum(last, unit, slope, low)
