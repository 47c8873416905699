"""Tick timers: the wheels of the processors.

A slot is a tuple (processor, due tick); its timers expire in the order in which it holds them.
"""

from timekernel.checks import check_processor, is_at_least
from timekernel.errors import NoProcessor, NoTick


def present_tick(state):
    """The tick that has begun last."""
    return state.reading("steady") // state.settings.tick


def is_ahead(settings, now, due):
    """Whether a timer that is put at one tick goes in front of those put before it for the same due tick."""
    base = settings.base
    stacks = 0
    level = 0
    # From the greatest index at which the digits differ downwards, the later
    # tick has its stations at its digits other than 0; there it has one itself.
    while now != due:
        if due % base != 0 and settings.word(level) == "stack":
            stacks += 1
        now = now // base
        due = due // base
        level += 1
    return stacks % 2 == 1


def put_in_slot(state, timer, processor, due):
    """Puts a tick timer in a slot at the present tick."""
    slot = (processor, due)
    before = state.slots.get(slot, ())
    ahead = is_ahead(state.settings, present_tick(state), due)
    state.slots[slot] = (timer,) + before if ahead else before + (timer,)
    state.slot_of[timer] = slot


def take_from_slot(state, timer):
    """Takes a tick timer out of its slot."""
    slot = state.slot_of.pop(timer)
    rest = tuple([other for other in state.slots[slot] if other != timer])
    if rest:
        state.slots[slot] = rest
    else:
        del state.slots[slot]


def put_tick_timer(state, processor, due):
    """Sets a tick timer and returns its number."""
    check_processor(state, processor)
    if not is_at_least(due, present_tick(state) + 1):
        raise NoTick("the tick of a timer is an integer greater than the present tick")
    timer = len(state.expired_times)
    state.expired_times.append(0)
    put_in_slot(state, timer, processor, due)
    return timer


def hand_over_timers(state, processor, other):
    """Puts all tick timers of a processor on another one, and returns their numbers in this order."""
    check_processor(state, processor)
    check_processor(state, other)
    if processor == other:
        raise NoProcessor("the processors must be two")
    moved = []
    for slot in sorted(state.slots):
        if slot[0] == processor:
            moved.extend(state.slots[slot])
    for timer in moved:
        due = state.slot_of[timer][1]
        take_from_slot(state, timer)
        put_in_slot(state, timer, other, due)
    return moved


def slots_begun(state, count):
    """The slots whose ticks have begun at a count, as tuples (count at which it began, slot)."""
    if not state.slots:
        return []
    course = state.course()
    tick = state.settings.tick
    present = course.reading("steady", count) // tick
    return [(course.reach("steady", slot[1] * tick), slot) for slot in sorted(state.slots) if slot[1] <= present]


def ring_slot(state, count, slot):
    """All timers of a slot expire."""
    processor, due = slot
    timers = state.slots.pop(slot)
    for place, timer in enumerate(timers):
        del state.slot_of[timer]
        state.expired_times[timer] += 1
        state.rung.append((count, due, processor, place, timer))
