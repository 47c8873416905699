"""What of a kernel some row of calls can show: kernels that agree in all of it are alike from now on."""

from timekernel.clocks import PLAIN_CLOCKS, is_plain, parts_left
from timekernel.queues import turned
from timekernel.sampling import samples_of, ticks_at_once
from timekernel.settings import MOST_LEVELS
from timekernel.timers import untaken_rows


def settings_part(settings):
    """All settings but the multiplier; lists of levels may be written in several ways."""
    words = [settings.word(level) for level in range(MOST_LEVELS)]
    return (settings.width, settings.rate[1], settings.processors, settings.tick, settings.base, words, settings.coarse)


def outlook(state):
    """What calls can show of a state, but for samples."""
    return (
        state.now, state.halted, clocks_part(state), timers_part(state), state.slots, state.expired_times,
        untaken_part(state), [queue_part(queue, state.now) for queue in state.course().queues], sleepers_part(state),
        [process_part(state, process) for process in range(state.made)],
        [thread_part(state, thread) for thread in range(len(state.owners))])


def samples_part(state):
    """What calls can show of samples; whoever runs behind the calls at this count gets those of the last item."""
    later = state.copied()
    return [samples_of(later, thread) for thread in range(len(state.owners))] + [ticks_at_once(state)]


def clocks_part(state):
    """The multiplier, the values of the clocks, and the running slew."""
    course = state.course()
    left = parts_left(state)
    return (course.mult, [course.value(clock, state.now) for clock in PLAIN_CLOCKS], left,
            None if left == 0 else course.step)


def stands_still(state, clock):
    """Whether a clock is that of a process that is over, or of a thread of one."""
    if is_plain(clock):
        return False
    kind, number = clock
    return (state.owners[number] if kind == "thread" else number) in state.over


def timers_part(state):
    """The live timers on clocks; those on a clock that stands still for ever are only live."""
    return {timer: None if stands_still(state, row.clock) else (row.clock, row.target, row.period, row.fragile)
            for timer, row in state.live.items()}


def untaken_part(state):
    """What has not been taken; only at the present count the kind of a timer still decides on an order."""
    return [(place[0], timer, times, place[1] if place[0] == state.now else None)
            for place, timer, times in untaken_rows(state)]


def queue_part(queue, count):
    """A queue and how long its present turn has been going on, if it ends at all."""
    threads, quantum, since = turned(queue, count)
    return (threads, quantum, count - since if threads and quantum is not None else None)


def sleepers_part(state):
    """The sleepers that a timer can still wake."""
    found = {}
    for thread, (timer, processor) in state.asleep.items():
        clock = state.live[timer].clock
        # The clock of a thread itself stands still as long as it sleeps.
        if clock != ("thread", thread) and not stands_still(state, clock):
            found[thread] = (timer, processor)
    return found


def process_part(state, process):
    """A process; one that is over has no more than a reading."""
    clock = ("process", process)
    if process in state.over:
        return (None, state.reading(clock))
    return (state.course().value(clock, state.now), state.limits.get(process))


def thread_part(state, thread):
    """A thread; one whose process is over has no more than a reading."""
    clock = ("thread", thread)
    owner = state.owners[thread]
    if owner in state.over:
        return (None, state.reading(clock))
    return (owner, state.course().value(clock, state.now))
