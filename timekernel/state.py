"""The state of a kernel: all that its calls change."""

from timekernel.segments import Segment


class Timer:
    """A live timer on a clock; it is never changed, only replaced."""

    def __init__(self, clock, target, slack, period, fragile):
        self.clock = clock
        self.target = target
        self.slack = slack
        self.period = period
        self.fragile = fragile

    def times(self, reading):
        """How often it expires at once if its clock reads this, not less than its due reading."""
        return 1 if self.period is None else (reading - self.target) // self.period + 1

    def later(self, times):
        """A periodic timer behind some expirations."""
        return Timer(self.clock, self.target + times * self.period, self.slack, self.period, self.fragile)


class State:
    """What a kernel knows and does. Calls change a copy, which replaces it if no error is raised."""

    def __init__(self, settings):
        self.settings = settings
        # The cycle of the last call, and the count.
        self.cycle = 0
        self.now = 0
        # Segments are shared between copies and not changed any more, but for a new draft.
        self.segments = []
        # The process of each thread, and how many processes there are.
        self.owners = ()
        self.made = 0
        # Processes that are over, and the limits of others.
        self.over = {}
        self.limits = {}
        # Sleeping threads, each with its timer and the processor whose queue it joins.
        self.asleep = {}
        # Live timers on clocks, and how often each timer, live or not, has expired.
        self.live = {}
        self.expired_times = []
        # Live tick timers with their slots (processor, due tick), and the tuples of the timers in each slot.
        self.slot_of = {}
        self.slots = {}
        # What has not been taken: timers with their first count and times, breaks, and tick timers.
        self.untaken = {}
        self.broken = []
        self.rung = []
        # What the coarse clock shows while the kernel is stopped.
        self.halted = None
        # For threads, how many of the first segments have been sampled, and the samples in them.
        self.samples = {}
        # The calls so far.
        self.rows = []
        # What would happen without further calls, as soon as it is asked for; a copy begins without it.
        self.forecast = None

    def copied(self):
        """A copy that can be changed without changing this one."""
        other = State(self.settings)
        other.cycle = self.cycle
        other.now = self.now
        other.segments = list(self.segments)
        other.owners = self.owners
        other.made = self.made
        other.over = dict(self.over)
        other.limits = dict(self.limits)
        other.asleep = dict(self.asleep)
        other.live = dict(self.live)
        other.expired_times = list(self.expired_times)
        other.slot_of = dict(self.slot_of)
        other.slots = {slot: self.slots[slot] for slot in self.slots}
        other.untaken = dict(self.untaken)
        other.broken = list(self.broken)
        other.rung = list(self.rung)
        other.halted = self.halted
        other.samples = dict(self.samples)
        other.rows = list(self.rows)
        return other

    def course(self):
        """The segment of the present count."""
        return self.segments[-1]

    def draft(self):
        """A new segment from the present count on, which may be changed at this count."""
        last = self.course()
        drafted = last.opened(self.now)
        drafted.owners = self.owners
        # What holds at a count is what holds behind the last call at it.
        if last.start == self.now:
            self.segments[-1] = drafted
        else:
            self.segments.append(drafted)
        return drafted

    def reading(self, clock):
        """The present reading of a clock."""
        return self.course().reading(clock, self.now)


def first_state(settings):
    """The state of a kernel that has just been made."""
    state = State(settings)
    mult, shift = settings.rate
    course = Segment(0, shift, mult)
    course.queues = [((), None, 0) for _ in range(settings.processors)]
    state.segments = [course]
    return state


def copied_row(row):
    """A row of the log whose lists are new."""
    return tuple([list(part) if isinstance(part, list) else part for part in row])
