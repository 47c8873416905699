"""Segments: from a count on, what all clocks do until something other than a turn changes it."""

from timekernel.checks import rounded_up
from timekernel.queues import ran_together, reach_together, shares_of, turned


class Segment:
    """What the clocks do from a count on.

    A clock is "steady", "real", "boot", ("thread", number) or ("process", number).
    """

    def __init__(self, start, shift, mult):
        self.start = start
        self.shift = shift
        self.mult = mult
        # The values of the clocks at the start; those that are missing are 0.
        self.worth = {"steady": 0, "real": 0, "boot": 0}
        # The value of the steady clock one count ahead of the start.
        self.before = 0
        # The parts that a slew has still to gain at the start, negative if it loses.
        self.left = 0
        self.step = 0
        self.queues = []
        self.owners = ()
        # The shares of the clocks of threads and processes, as soon as they are needed.
        self.shares = None

    def set_queue(self, processor, queue):
        """Replaces the queue of a processor at the start."""
        self.queues[processor] = queue
        self.shares = None

    def driven(self):
        """The shares of each clock of a thread or a process that a queue drives, as a dict of lists."""
        if self.shares is None:
            found = {}
            for queue in self.queues:
                for clock, share in shares_of(queue, self.start, self.owners):
                    found.setdefault(clock, []).append(share)
            self.shares = found
        return self.shares

    def slewed(self, counts):
        """The parts that the slew has gained after some counts, negative if it loses."""
        gained = min(abs(self.left), self.step * counts)
        return gained if self.left > 0 else -gained

    def value(self, clock, count):
        """The value of a clock at a count that is not ahead of the start."""
        worth = self.worth.get(clock, 0)
        counts = count - self.start
        if counts == 0:
            return worth
        if isinstance(clock, tuple):
            return worth + self.mult * ran_together(self.driven().get(clock, []), counts)
        if clock == "real":
            worth = worth + self.slewed(counts)
        return worth + self.mult * counts

    def reading(self, clock, count):
        """The reading of a clock at a count that is not ahead of the start."""
        return self.value(clock, count) >> self.shift

    def reach(self, clock, reading):
        """The least count from the start on at which a clock reads at least `reading`, or None."""
        parts = (reading << self.shift) - self.worth.get(clock, 0)
        if parts <= 0:
            return self.start
        counts = rounded_up(parts, self.mult)
        if isinstance(clock, tuple):
            counts = reach_together(self.driven().get(clock, []), counts)
            return None if counts is None else self.start + counts
        if clock == "real" and self.left != 0:
            counts = self.slewed_to(parts)
        return self.start + counts

    def slewed_to(self, parts):
        """The least number of counts in which the real clock gains so many parts during a slew or behind it."""
        behind = rounded_up(parts - self.left, self.mult)
        # A gaining slew is ahead of the line behind it only until it ends, a losing one never falls below it.
        if self.left > 0:
            return max(behind, rounded_up(parts, self.mult + self.step))
        return min(behind, rounded_up(parts, self.mult - self.step))

    def opened(self, count):
        """The same course, written down from a later count on."""
        later = Segment(count, self.shift, self.mult)
        clocks = list(self.worth) + [clock for clock in self.driven() if clock not in self.worth]
        later.worth = {clock: self.value(clock, count) for clock in clocks}
        later.before = self.before if count == self.start else self.value("steady", count - 1)
        later.left = self.left - self.slewed(count - self.start)
        later.step = self.step
        later.queues = [turned(queue, count) for queue in self.queues]
        return later
