"""A kernel that goes on with another counter."""

from timekernel.checks import check_rate, check_width
from timekernel.clocks import parts_left
from timekernel.errors import NoSlew
from timekernel.sampling import samples_of


def moved_state(state, width, rate):
    """The state of a kernel on another counter; all readings stay, and the history begins anew."""
    check_width(width)
    check_rate(rate)
    if parts_left(state) != 0:
        raise NoSlew("a slew is running")
    later = state.copied()
    # The segments that were sampled are left behind, the samples are not.
    later.samples = {thread: (0, samples_of(later, thread)) for thread in range(len(state.owners))}
    course = later.draft()
    mult, shift = rate
    old = course.shift
    course.mult = mult
    course.shift = shift
    course.worth = {clock: (course.worth[clock] << shift) >> old for clock in course.worth}
    course.before = (course.before << shift) >> old
    later.segments = [course]
    later.settings = state.settings.on(width, rate)
    later.rows = []
    return later
