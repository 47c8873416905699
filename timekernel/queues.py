"""Queues of threads that take turns: tuples (threads, quantum, since) of a tuple, a quantum and a count.

`since` is the count at which the present turn began.
"""

from timekernel.checks import rounded_up


def turned(queue, count):
    """A queue at a later count, behind all turns that end up to it."""
    threads, quantum, since = queue
    if not threads or quantum is None:
        return queue
    turns = (count - since) // quantum
    place = turns % len(threads)
    return (threads[place:] + threads[:place], quantum, since + turns * quantum)


def without(queue, gone, count):
    """A queue that the threads of a list leave at a count."""
    threads, quantum, since = queue
    kept = tuple([thread for thread in threads if thread not in gone])
    return (kept, quantum, since if kept[:1] == threads[:1] else count)


def with_last(queue, thread, count):
    """A queue that a thread joins at a count."""
    threads, quantum, since = queue
    return (threads + (thread,), quantum, since if threads else count)


class Share:
    """When the threads at some places of a queue run."""

    def __init__(self, places, many, quantum, elapsed):
        self.places = places
        self.many = many
        self.quantum = quantum
        self.part = quantum * len(places)
        self.whole = quantum * many
        self.elapsed = elapsed
        self.already = self.turned_to(elapsed)

    def turned_to(self, counts):
        """At how many of the first counts they run if the first turn begins then."""
        rounds, rest = divmod(counts, self.whole)
        turns = [min(max(rest - place * self.quantum, 0), self.quantum) for place in self.places]
        return rounds * self.part + sum(turns)

    def ran(self, counts):
        """At how many of the next counts they run."""
        return self.turned_to(self.elapsed + counts) - self.already

    def stretch(self, counts):
        """How long after some counts none of them begins or ends a turn, and whether one runs till then, as 1 or 0."""
        turn, past = divmod((self.elapsed + counts) % self.whole, self.quantum)
        return (self.quantum - past, 1 if turn in self.places else 0)

    def reach(self, wanted):
        """The least number of counts at which they have run `wanted` counts, at least one."""
        rounds, rest = divmod(self.already + wanted - 1, self.part)
        turn, more = divmod(rest, self.quantum)
        return rounds * self.whole + self.places[turn] * self.quantum + more + 1 - self.elapsed


def shares_of(queue, start, owners):
    """The clocks that a queue drives from a count on, as tuples (clock, share)."""
    threads, quantum, since = queue
    if quantum is None:
        # Without a quantum the first thread is like one alone.
        threads, quantum, since = threads[:1], 1, start
    many = len(threads)
    elapsed = start - since
    places = {}
    for place, thread in enumerate(threads):
        places[("thread", thread)] = [place]
        places.setdefault(("process", owners[thread]), []).append(place)
    return [(clock, Share(places[clock], many, quantum, elapsed)) for clock in places]


def ran_together(shares, counts):
    """The sum of what several shares run in the next counts."""
    return sum([share.ran(counts) for share in shares])


def reach_together(shares, wanted):
    """The least number of counts at which several shares have run `wanted` counts, at least one, or None."""
    if not shares:
        return None
    if len(shares) == 1:
        return shares[0].reach(wanted)
    less, counts = bracket(shares, wanted)
    while counts - less > 1:
        stretches = [share.stretch(less) for share in shares]
        many = min([length for length, _ in stretches])
        running = sum([runs for _, runs in stretches])
        missing = wanted - ran_together(shares, less)
        if running * many >= missing:
            return less + rounded_up(missing, running)
        less += many
        middle = (less + counts) // 2
        if ran_together(shares, middle) < wanted:
            less = middle
        else:
            counts = middle
    return counts


def bracket(shares, wanted):
    """A number of counts at which shares have run less than `wanted` counts, and one at which they have not."""
    unit = 1
    away = 0
    for share in shares:
        unit = unit * share.many
        # Neither end of a stretch is more than a round away from the mean.
        away += 2 * share.part
    mean = sum([unit // share.many * len(share.places) for share in shares])
    return (max(0, (wanted - away) * unit // mean - 1), (wanted + away) * unit // mean + 1)
