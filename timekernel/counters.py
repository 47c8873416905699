"""Counters that show only the low bits of the cycle."""

from math import comb

from timekernel.checks import are_cycles, check_cycle, check_width, is_within
from timekernel.errors import NoLooks


def check_looks(looks):
    if not are_cycles(looks) or not looks:
        raise NoLooks("looks are a list of cycles that is not empty, none less than the one before")


def check_values(width, values):
    if not isinstance(values, list) or not values:
        raise NoLooks("the values of a counter are a list that is not empty")
    most = (1 << width) - 1
    for value in values:
        if not is_within(value, 0, most):
            raise NoLooks("a value of a counter is an integer from 0 to 2 ** width - 1")


def shown(width, looks):
    """What the counter shows at the looks."""
    check_width(width)
    check_looks(looks)
    wrap = 1 << width
    return [cycle % wrap for cycle in looks]


def counted(width, looks):
    """How many cycles the kernel counts from the first look to the last one."""
    check_width(width)
    check_looks(looks)
    wrap = 1 << width
    return sum([(now - before) % wrap for before, now in zip(looks, looks[1:])])


def lost(width, looks):
    """The looks, as (index, cycles), at which whole wraps since the look before are missing."""
    check_width(width)
    check_looks(looks)
    wrap = 1 << width
    found = []
    for index in range(1, len(looks)):
        missing = (looks[index] - looks[index - 1]) // wrap * wrap
        if missing > 0:
            found.append((index, missing))
    return found


def least_history(width, values):
    """The least looks at which the counter shows these values."""
    check_width(width)
    check_values(width, values)
    wrap = 1 << width
    cycle = values[0]
    looks = [cycle]
    for value in values[1:]:
        cycle += (value - cycle) % wrap
        looks.append(cycle)
    return looks


def histories_many(width, values, last):
    """How many lists of looks show these values, with a last look not greater than `last`."""
    looks = least_history(width, values)
    check_cycle(last)
    if last < looks[-1]:
        return 0
    # Each history is the least one with whole wraps put in ahead of each look:
    # so many of them, up to the spare ones in all, is what there is to choose.
    spare = (last - looks[-1]) // (1 << width)
    return comb(spare + len(looks), len(looks))
