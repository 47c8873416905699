"""How often a thread runs when a tick begins."""

from timekernel.errors import NoThread
from timekernel.sums import floor_sum
from timekernel.threads import is_thread


def samples_of(state, thread):
    """How many ticks have begun, ahead of the present count, while a thread ran."""
    if not is_thread(state, thread):
        raise NoThread("there is no such thread")
    done, total = state.samples.get(thread, (0, 0))
    segments = state.segments
    unit = state.settings.tick << segments[-1].shift
    for place in range(done, len(segments) - 1):
        total += samples_in(segments[place], segments[place + 1].start, thread, unit)
    # The last segment is not over; the others are not asked again.
    state.samples[thread] = (len(segments) - 1, total)
    return total + samples_in(segments[-1], state.now, thread, unit)


def ticks_at_once(state):
    """How many ticks begin at the present count; they are not sampled yet."""
    course = state.course()
    counts = state.now - course.start
    return begun_in(course, counts, counts + 1, state.settings.tick << course.shift)


def samples_in(segment, end, thread, unit):
    """How many ticks begin in a segment, ahead of a count, while a thread runs; `unit` is a tick in parts."""
    for threads, quantum, since in segment.queues:
        if thread in threads:
            place = threads.index(thread)
            if quantum is None or len(threads) == 1:
                return begun_in(segment, 0, end - segment.start, unit) if place == 0 else 0
            begin = since + place * quantum - segment.start
            return samples_in_turns(segment, end - segment.start, (begin, quantum, len(threads)), unit)
    return 0


def begun_in(segment, first, past, unit):
    """How many ticks begin at the counts from one to ahead of another, both counted from the start."""
    if first >= past:
        return 0
    before = segment.before if first == 0 else segment.value("steady", segment.start + first - 1)
    return segment.value("steady", segment.start + past - 1) // unit - before // unit


def samples_in_turns(segment, many, turns, unit):
    """How many ticks begin in the first counts of a segment that lie in the turns of a thread."""
    begin, quantum, threads = turns
    # The first turn may have begun ahead of the segment, the last one may not be over.
    total = begun_in(segment, max(begin, 0), min(begin + quantum, many), unit)
    whole = threads * quantum
    begin = begin + whole
    if begin >= many:
        return total
    rounds = (many - 1 - begin) // whole
    slope = segment.mult * whole
    total += floor_sum(rounds, unit, slope, segment.value("steady", segment.start + begin + quantum - 1))
    total -= floor_sum(rounds, unit, slope, segment.value("steady", segment.start + begin - 1))
    begin = begin + rounds * whole
    return total + begun_in(segment, begin, min(begin + quantum, many), unit)
