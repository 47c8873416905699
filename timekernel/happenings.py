"""What happens from one call to the next: turns, limits, expirations and threads that wake."""

from timekernel.threads import end_process, wake_sleepers
from timekernel.wheels import ring_slot, slots_begun


def advance(state, at):
    """The count grows up to a look at a cycle, and all happens that happens up to it."""
    count = state.now + (at - state.cycle) % (1 << state.settings.width)
    state.cycle = at
    event = next_event(state, count)
    while event is not None:
        happen(state, event)
        event = next_event(state, count)
    if count > state.now:
        happen(state, count)


def settle(state):
    """What a call has made due happens at its count."""
    happen(state, state.now)


def next_event(state, most):
    """The next count, at most the one given, at which a process comes to its limit or a thread wakes, or None."""
    course = state.course()
    found = None
    for clock, reading in awaited(state):
        bound = most if found is None else found
        if bound is None or course.reading(clock, bound) >= reading:
            count = course.reach(clock, reading)
            found = found if count is None else count
    return found


def awaited(state):
    """The readings of clocks at which something happens that changes queues, as tuples (clock, reading)."""
    limits = [(("process", process), state.limits[process]) for process in state.limits]
    timers = [state.live[timer] for timer, _ in state.asleep.values()]
    return limits + [(timer.clock, timer.target) for timer in timers]


def happen(state, count):
    """All that happens up to a count, if nothing changes queues ahead of it but turns."""
    expirations = due_timers(state, count)
    slots = slots_begun(state, count)
    ended = limits_reached(state, count)
    state.now = count
    for process in ended:
        end_process(state, process)
    for timer, first, times in expirations:
        expire(state, timer, first, times)
    for first, slot in slots:
        ring_slot(state, first, slot)


def limits_reached(state, count):
    """The processes that have come to their limits at a count, in ascending order."""
    course = state.course()
    return [process for process in sorted(state.limits)
            if course.reading(("process", process), count) >= state.limits[process]]


def due_timers(state, count):
    """The timers that expire up to a count, as tuples (timer, first count, times), in ascending order."""
    course = state.course()
    readings = {}
    found = []
    for timer in sorted(state.live):
        row = state.live[timer]
        if row.clock not in readings:
            readings[row.clock] = course.reading(row.clock, count)
        reading = readings[row.clock]
        if reading >= row.target:
            # A call may make a timer due that its clock has passed long since.
            first = count if count == state.now else course.reach(row.clock, row.target)
            found.append((timer, first, row.times(reading)))
    return found


def expire(state, timer, count, times):
    """A timer expires some times, first at a count."""
    state.expired_times[timer] += times
    first, before = state.untaken.get(timer, (count, 0))
    state.untaken[timer] = (first, before + times)
    row = state.live[timer]
    if row.period is None:
        del state.live[timer]
    else:
        state.live[timer] = row.later(times)
    wake_sleepers(state, timer)
