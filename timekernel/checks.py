"""Checks of arguments that several modules share."""

from timekernel.errors import NoCycle, NoProcessor, NoRate, NoReading, NoTick, NoWidth

MOST_WIDTH = 64
MOST_SHIFT = 64
MOST_MULT = 2 ** 64 - 1


def is_integer(thing):
    """Whether an object is an integer; True and False are none."""
    return isinstance(thing, int) and not isinstance(thing, bool)


def is_within(thing, least, greatest):
    """Whether an object is an integer from least to greatest."""
    return is_integer(thing) and least <= thing <= greatest


def is_at_least(thing, least):
    """Whether an object is an integer that is not less than least."""
    return is_integer(thing) and thing >= least


def are_cycles(thing):
    """Whether an object is a list of cycles, none less than the one before."""
    if not isinstance(thing, list):
        return False
    before = 0
    for cycle in thing:
        if not is_at_least(cycle, before):
            return False
        before = cycle
    return True


def check_width(width):
    if not is_within(width, 1, MOST_WIDTH):
        raise NoWidth("a width is an integer from 1 to 64")


def check_cycle(cycle):
    if not is_at_least(cycle, 0):
        raise NoCycle("a cycle is an integer >= 0")


def check_shift(shift):
    if not is_within(shift, 0, MOST_SHIFT):
        raise NoRate("a shift is an integer from 0 to 64")


def check_rate(rate):
    if not isinstance(rate, tuple) or len(rate) != 2:
        raise NoRate("a rate is a tuple (mult, shift)")
    if not is_within(rate[0], 1, MOST_MULT):
        raise NoRate("a multiplier is an integer from 1 to 2 ** 64 - 1")
    check_shift(rate[1])


def check_tick(tick):
    if not is_at_least(tick, 1):
        raise NoTick("a tick is an integer >= 1")


def check_reading(reading):
    if not is_integer(reading):
        raise NoReading("a reading is an integer")


def check_reading_from_zero(reading):
    if not is_at_least(reading, 0):
        raise NoReading("this reading is an integer >= 0")


def check_processor(state, processor):
    if not is_within(processor, 0, state.settings.processors - 1):
        raise NoProcessor("there is no such processor")


def rounded_up(parts, unit):
    """The quotient, rounded up."""
    return -(-parts // unit)
