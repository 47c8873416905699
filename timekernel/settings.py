"""The settings with which a kernel is made."""

from timekernel.checks import check_rate, check_tick, check_width, is_at_least, is_within
from timekernel.errors import NoLevels, NoProcessor, NoReading

MOST_PROCESSORS = 8
LEAST_BASE = 2
MOST_BASE = 64
MOST_LEVELS = 60


class Settings:
    """What a kernel is made with; it does not change."""

    def __init__(self, width, rate, processors, tick, base, levels, coarse):
        self.width = width
        self.rate = rate
        self.processors = processors
        self.tick = tick
        self.base = base
        self.levels = levels
        self.coarse = coarse

    def word(self, level):
        """The word of a level; all levels beyond the list have the last one."""
        return self.levels[min(level, len(self.levels) - 1)]

    def on(self, width, rate):
        """The same settings on another counter."""
        return Settings(width, rate, self.processors, self.tick, self.base, self.levels, self.coarse)


def checked_settings(width, rate, processors, tick, base, levels, coarse):
    """The settings of these arguments of a kernel."""
    check_width(width)
    check_rate(rate)
    if not is_within(processors, 1, MOST_PROCESSORS):
        raise NoProcessor("the number of processors is an integer from 1 to 8")
    check_tick(tick)
    if not is_within(base, LEAST_BASE, MOST_BASE):
        raise NoLevels("a base is an integer from 2 to 64")
    words = checked_levels(levels)
    if not is_at_least(coarse, 1):
        raise NoReading("coarse units are an integer >= 1")
    return Settings(width, rate, processors, tick, base, words, coarse)


def checked_levels(levels):
    """The words of the levels as a tuple."""
    if levels is None:
        return ("queue",)
    if not isinstance(levels, list) or not is_within(len(levels), 1, MOST_LEVELS):
        raise NoLevels("levels are None or a list of 1 to 60 words")
    for word in levels:
        if not isinstance(word, str) or word not in ("stack", "queue"):
            raise NoLevels("the word of a level is stack or queue")
    return tuple(levels)
