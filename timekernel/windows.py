"""Looks that are enough for given windows, and stretches that show how many are needed."""

from timekernel.checks import check_cycle, is_at_least
from timekernel.errors import NoCycle, NoLooks, NoSpan, NoWindow, TooMany

MOST_LOOKS = 2000


def is_stretch(thing):
    """Whether an object is a tuple (first, last) of cycles, first <= last."""
    return (isinstance(thing, tuple) and len(thing) == 2 and is_at_least(thing[0], 0)
            and is_at_least(thing[1], thing[0]))


def check_windows(span, windows, begin, until):
    if not is_at_least(span, 1):
        raise NoSpan("a span is an integer >= 1")
    if not isinstance(windows, list) or not all([is_stretch(window) for window in windows]):
        raise NoWindow("windows are a list of tuples (first, last) of cycles, first <= last")
    check_cycle(begin)
    if not is_at_least(until, begin):
        raise NoCycle("the last cycle is one not less than the first one")


def is_looks(thing, begin, until):
    """Whether an object is a list of cycles between two others in strictly ascending order."""
    if not isinstance(thing, list):
        return False
    before = begin
    for look in thing:
        if not is_at_least(look, before + 1) or look >= until:
            return False
        before = look
    return True


def latest(span, windows, look):
    """The last cycle at which there must be another look after one."""
    ends = [last for first, last in windows if first > look]
    return min([look + span] + ends)


def fewest(span, windows, begin, until):
    """A shortest list of looks that is enough, each as late as possible."""
    check_windows(span, windows, begin, until)
    looks = []
    look = latest(span, windows, begin)
    while look < until:
        if len(looks) == MOST_LOOKS:
            raise TooMany("there are more than 2000 looks")
        looks.append(look)
        look = latest(span, windows, look)
    return looks


def is_enough(span, windows, begin, until, looks):
    """Whether an object is a list of looks that is enough."""
    check_windows(span, windows, begin, until)
    return is_looks(looks, begin, until) and suffices(span, windows, begin, until, looks)


def suffices(span, windows, begin, until, looks):
    """Whether a list of looks is enough."""
    ends = looks + [until]
    starts = [begin] + looks
    if any([end - start > span for start, end in zip(starts, ends)]):
        return False
    for first, last in windows:
        if first > begin and last < until and not any([first <= look <= last for look in looks]):
            return False
    return True


def needed(span, windows, begin, until, looks):
    """A shortest part of a list of looks that is enough, each as late as possible; None if the list is not."""
    check_windows(span, windows, begin, until)
    if not is_looks(looks, begin, until):
        raise NoLooks("looks are a list of cycles between both ends, in strictly ascending order")
    if not suffices(span, windows, begin, until, looks):
        return None
    part = []
    bound = latest(span, windows, begin)
    while bound < until:
        look = max([look for look in looks if look <= bound])
        part.append(look)
        bound = latest(span, windows, look)
    return part


def is_certificate(span, windows, begin, until, stretches):
    """Whether an object is a list of stretches each of which needs a look of its own."""
    check_windows(span, windows, begin, until)
    if not isinstance(stretches, list):
        return False
    before = begin
    for stretch in stretches:
        if not is_stretch(stretch) or stretch[0] <= before or stretch[1] >= until:
            return False
        if stretch not in windows and stretch[1] - stretch[0] + 1 != span:
            return False
        before = stretch[1]
    return True
