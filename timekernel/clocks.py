"""The clocks of a kernel: what they read, and the calls that change them."""

from timekernel.checks import MOST_MULT, check_reading, check_reading_from_zero, is_at_least, is_integer, is_within
from timekernel.errors import NoClock, NoCycle, NoRate, NoReading, NoSlew

PLAIN_CLOCKS = ("steady", "real", "boot")


def is_plain(clock):
    """Whether an object is one of the clocks that belong to no thread and no process."""
    return isinstance(clock, str) and clock in PLAIN_CLOCKS


def check_clock(state, clock):
    if not is_plain(clock) and not is_counted(state, clock):
        raise NoClock("there is no such clock")


def is_counted(state, clock):
    """Whether an object is the clock of a thread or a process."""
    if not isinstance(clock, tuple) or len(clock) != 2 or not isinstance(clock[0], str):
        return False
    if clock[0] == "thread":
        return is_within(clock[1], 0, len(state.owners) - 1)
    return clock[0] == "process" and is_within(clock[1], 0, state.made - 1)


def parts_left(state):
    """The parts that the running slew still has to gain, negative if it loses."""
    course = state.course()
    return course.left - course.slewed(state.now - course.start)


def change_rate(state, mult):
    """Sets the multiplier."""
    if not is_within(mult, 1, MOST_MULT):
        raise NoRate("a multiplier is an integer from 1 to 2 ** 64 - 1")
    if parts_left(state) != 0 and state.course().step >= mult:
        raise NoRate("a slew is running whose step is not less")
    draft = state.draft()
    draft.mult = mult


def change_real(state, reading):
    """Sets the real clock, which ends a slew."""
    draft = state.draft()
    draft.worth["real"] = reading << draft.shift
    draft.left = 0


def begin_slew(state, amount, step):
    """Begins a slew of the real clock, which ends the one before."""
    if not is_integer(amount) or amount == 0:
        raise NoSlew("the amount of a slew is an integer that is not 0")
    if not is_within(step, 1, state.course().mult - 1):
        raise NoSlew("the step of a slew is an integer from 1 to the multiplier less 1")
    draft = state.draft()
    draft.left = amount << draft.shift
    draft.step = step


def halt(state, reading):
    """Stops the kernel at a reading of the coarse clock."""
    check_reading_from_zero(reading)
    state.halted = reading


def resume(state, reading):
    """Goes on at a reading of the coarse clock; boot and real have not stood still."""
    if not is_at_least(reading, state.halted):
        raise NoReading("the coarse clock reads an integer not less than at the stop")
    draft = state.draft()
    grown = (reading - state.halted) * state.settings.coarse << draft.shift
    draft.worth["boot"] += grown
    draft.worth["real"] += grown
    state.halted = None


def alarm_reading(state):
    """The greatest reading of the coarse clock at which no timer on boot or real is overdue, or None."""
    rows = [row for row in state.live.values() if row.clock in ("boot", "real")]
    units = [row.target + row.slack - state.reading(row.clock) for row in rows]
    return None if not units else state.halted + min(units) // state.settings.coarse


def past_reading(state, clock, count):
    """What a clock read at a count, behind all calls at it."""
    check_clock(state, clock)
    segments = state.segments
    if not is_within(count, segments[0].start, state.now):
        raise NoCycle("a count is an integer up to the present one")
    low = 0
    past = len(segments)
    while past - low > 1:
        middle = (low + past) // 2
        if segments[middle].start <= count:
            low = middle
        else:
            past = middle
    return segments[low].reading(clock, count)


def past_runs(state, clock, reading):
    """The stretches (first, last) of counts at which a clock read exactly `reading`."""
    if not is_plain(clock):
        raise NoClock("only steady, real and boot have such stretches")
    check_reading(reading)
    segments = state.segments
    ends = [segment.start for segment in segments[1:]] + [state.now + 1]
    runs = []
    for segment, end in zip(segments, ends):
        first = segment.reach(clock, reading)
        last = min(segment.reach(clock, reading + 1), end) - 1
        if first > last:
            continue
        if runs and runs[-1][1] == first - 1:
            first = runs.pop()[0]
        runs.append((first, last))
    return runs
