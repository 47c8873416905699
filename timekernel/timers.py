"""Timers on clocks, and what is taken of all timers."""

from timekernel.checks import check_reading, is_at_least, is_integer, is_within
from timekernel.clocks import check_clock
from timekernel.errors import NoFragile, NoPeriod, NoSlack, NoTimer
from timekernel.state import Timer
from timekernel.threads import sleep_on
from timekernel.wheels import take_from_slot


def put_timer(state, clock, due, slack, period, fragile):
    """Sets a timer and returns its number."""
    check_clock(state, clock)
    check_reading(due)
    if not is_at_least(slack, 0):
        raise NoSlack("a slack is an integer >= 0")
    if period is not None and not is_at_least(period, 1):
        raise NoPeriod("a period is None or an integer >= 1")
    if not isinstance(fragile, bool) or (fragile and clock != "real"):
        raise NoFragile("fragile is a bool, and True for the real clock only")
    timer = len(state.expired_times)
    state.expired_times.append(0)
    state.live[timer] = Timer(clock, due, slack, period, fragile)
    return timer


def check_live(state, timer):
    if not is_integer(timer) or (timer not in state.live and timer not in state.slot_of):
        raise NoTimer("there is no such live timer")


def drop_timer(state, timer):
    """Ends a live timer."""
    check_live(state, timer)
    if timer in state.slot_of:
        take_from_slot(state, timer)
    else:
        del state.live[timer]
        sleep_on(state, timer)


def break_timers(state):
    """Ends all live timers that do not outlive a real clock that is set."""
    for timer in sorted(state.live):
        if state.live[timer].fragile:
            del state.live[timer]
            sleep_on(state, timer)
            state.broken.append((state.now, timer))


def times_expired(state, timer):
    """How often a timer has expired so far."""
    if not is_within(timer, 0, len(state.expired_times) - 1):
        raise NoTimer("there was never such a timer")
    return state.expired_times[timer]


def live_timers(state):
    """The numbers of all live timers in ascending order."""
    return sorted(list(state.live) + list(state.slot_of))


def due_of(state, timer):
    """The next due reading of a live timer, or the tick of a tick timer."""
    check_live(state, timer)
    if timer in state.slot_of:
        return state.slot_of[timer][1]
    return state.live[timer].target


def untaken_rows(state):
    """What has happened since the last take, in its order, as tuples (place, timer, times)."""
    # The places give the order: the count, timers on clocks ahead of tick
    # timers, then the timer, an expiration ahead of a break.
    rows = [((count, 0, timer, 0), timer, times) for timer, (count, times) in state.untaken.items()]
    rows.extend([((count, 0, timer, 1), timer, 0) for count, timer in state.broken])
    rows.extend([((count, 1, due, processor, place), timer, 1)
                 for count, due, processor, place, timer in state.rung])
    return sorted(rows)


def take_all(state):
    """What has happened since the last take; it is forgotten."""
    taken = [(place[0], timer, times) for place, timer, times in untaken_rows(state)]
    state.untaken = {}
    state.broken = []
    state.rung = []
    return taken
