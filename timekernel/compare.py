"""Kernels compared: whether calls can tell them apart, and when their clocks first read differently."""

from timekernel.clocks import PLAIN_CLOCKS, parts_left
from timekernel.errors import NoCycle, NoKernel, Stopped
from timekernel.kernel import Kernel
from timekernel.lines import first_apart
from timekernel.outlook import outlook, samples_part, settings_part


def check_kernels(one, other):
    if not isinstance(one, Kernel) or not isinstance(other, Kernel):
        raise NoKernel("this is not a kernel")


def check_same_cycle(one, other):
    if one.state.cycle != other.state.cycle:
        raise NoCycle("the last calls of the kernels were not at the same cycle")


def alike_from_now(one, other):
    """Whether no row of calls, made on both kernels, ever returns or raises different things."""
    check_kernels(one, other)
    if settings_part(one.state.settings) != settings_part(other.state.settings):
        raise NoKernel("the kernels were made with different settings")
    check_same_cycle(one, other)
    return outlook(one.state) == outlook(other.state) and samples_part(one.state) == samples_part(other.state)


def first_unlike(one, other):
    """The least cycle, and the clock, at which two kernels would read differently, or None."""
    check_kernels(one, other)
    check_same_cycle(one, other)
    if one.state.halted is not None or other.state.halted is not None:
        raise Stopped("a kernel is stopped")
    found = []
    for place, clock in enumerate(PLAIN_CLOCKS):
        counts = counts_alike(lines_of(one.state, clock), lines_of(other.state, clock))
        if counts is not None:
            found.append((counts, place))
    if not found:
        return None
    counts, place = min(found)
    return (one.state.cycle + counts, PLAIN_CLOCKS[place])


def lines_of(state, clock):
    """What a clock reads from now on, as tuples (counts from now, line) from which on it reads the line."""
    course = state.course()
    value = course.value(clock, state.now)
    left = parts_left(state)
    if clock != "real" or left == 0:
        return [(0, (value, course.mult, course.shift))]
    steps = abs(left) // course.step
    slope = course.mult + course.step if left > 0 else course.mult - course.step
    # In the count behind the whole steps the rest is gained.
    return [(0, (value, slope, course.shift)), (steps + 1, (value + left, course.mult, course.shift))]


def counts_alike(one, other):
    """In how many counts two clocks first read differently, or None; both are given by their lines."""
    starts = sorted([start for start, _ in one + other])
    for place, start in enumerate(starts):
        counts = first_apart(line_at(one, start), line_at(other, start))
        if counts is not None and (place + 1 == len(starts) or start + counts < starts[place + 1]):
            return start + counts
    return None


def line_at(lines, start):
    """The line that holds at a count, written down from this count on."""
    found = [line for begin, line in lines if begin <= start]
    value, slope, shift = found[-1]
    return (value + slope * start, slope, shift)
