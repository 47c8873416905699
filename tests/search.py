"""Random rows of calls on kernels without a slow model, and a search for rows that tell two kernels apart."""

from tests.model import PLAIN
from tests.rows import a_call, beginning, outcome, settings
from timekernel.kernel import Kernel
from timekernel.threads import processor_of


class OnTicks:
    """What `View` shows of a tick timer."""

    clock = None


class View:
    """What `tests.rows` asks of a slow model, read off a kernel."""

    def __init__(self, kernel):
        state = self.state = kernel.state
        self.shift, self.mult = state.course().shift, state.course().mult
        self.processors = state.settings.processors
        self.owner = list(state.owners)
        self.over = [number in state.over for number in range(state.made)]
        self.values = [*PLAIN, *[("thread", number) for number in range(len(self.owner))],
                       *[("process", number) for number in range(state.made)]]
        self.live = {**state.live, **{timer: OnTicks for timer in state.slot_of}}
        self.counts = state.expired_times
        self.halted = state.halted
        self.at = state.cycle

    def value_reading(self, clock):
        return self.state.reading(clock)

    def place(self, thread):
        return processor_of(self.state, thread)

    def present_tick(self):
        return self.state.reading("steady") // self.state.settings.tick


def made(kernel, call):
    """What a call returns, or the name of its error."""
    name, rest, more = call
    return outcome(getattr(kernel, name), *rest, **more)


def random_kernel(dice):
    """A kernel on which calls have made processes and threads."""
    positional, named = settings(dice)
    kernel = Kernel(*positional, **named)
    for call in beginning(dice, View(kernel)):
        made(kernel, call)
    return kernel


def random_calls(dice, kernel, many, longest):
    """Makes random calls on a kernel, some of which raise errors."""
    for _ in range(many):
        made(kernel, a_call(dice, View(kernel), longest))


def random_log_kernel(dice, many=40, longest=None):
    """A kernel with a random log."""
    kernel = random_kernel(dice)
    random_calls(dice, kernel, many, dice.choice([1, 3, 9, 40]) if longest is None else longest)
    return kernel


def row_apart(dice, one, other, tries, many=50):
    """A row of calls, made on twins of both kernels, whose last one they answer differently; None if none is found."""
    for number in range(tries):
        twins = one.twin(), other.twin()
        row = []
        # A kernel of both shows which calls would do something; probes go through all of it.
        for call in probe(dice, twins[0]) if number % 2 == 0 else []:
            row.append(call)
            if made(twins[0], call) != made(twins[1], call):
                return row
        longest = dice.choice([1, 3, 9, 30])
        for _ in range(many):
            call = a_call(dice, View(dice.choice(twins)), longest)
            row.append(call)
            if made(twins[0], call) != made(twins[1], call):
                return row
    return None


def probe(dice, kernel):
    """Calls that show most of a kernel; each is made before the next one is asked for."""
    if kernel.state.halted is not None:
        yield "go", [kernel.state.halted + dice.choice([0, 0, 1, 5])], {}
    at = kernel.last()
    for timer in range(len(kernel.state.expired_times)):
        yield "expired", [at, timer], {}
    yield from dice.choice([no_probe, no_probe, probe_taken, probe_slew, slow_down, slow_down])(dice, kernel)
    if dice.random() < 0.5:
        yield from new_threads(dice, kernel)
    if dice.random() < 0.6:
        yield from other_queues(dice, kernel)
    if dice.random() < 0.2 and kernel.state.settings.processors > 1:
        yield "hand_over", [at, 0, 1], {}
    yield from steps(dice, kernel, dice.choice([5, 60, 150]))


def no_probe(dice, kernel):
    yield "look", [kernel.last()], {}


def probe_taken(dice, kernel):
    yield "put", [kernel.last(), "steady", -10], {}
    yield "take", [kernel.last()], {}


def probe_slew(dice, kernel):
    """Which multipliers a running slew allows, and what is left of it if it goes on."""
    for mult in range(1, 12):
        yield "set_rate", [kernel.last(), mult], {}
    if dice.random() < 0.5:
        yield "slew", [kernel.last(), -dice.choice([1, 40]), max(1, kernel.state.course().mult - 1)], {}


def slow_down(dice, kernel):
    """Sets the real clock and lets all clocks grow by the least part."""
    reading = kernel.state.reading("real")
    yield "set_real", [kernel.last(), dice.choice([0, reading, reading - 3])], {}
    yield "set_rate", [kernel.last(), 1], {}


def new_threads(dice, kernel):
    """Joins new threads to each queue."""
    yield "process", [kernel.last()], {}
    process = dice.choice([number for number in range(kernel.state.made) if number not in kernel.state.over])
    for processor in range(kernel.state.settings.processors):
        for _ in range(dice.choice([1, 2])):
            yield "thread", [kernel.last(), process], {}
            yield "join", [kernel.last(), processor, len(kernel.state.owners) - 1], {}


def other_queues(dice, kernel):
    """Joins some threads, or all, to queues that may have been emptied."""
    processors = kernel.state.settings.processors
    live = [thread for thread, owner in enumerate(kernel.state.owners) if owner not in kernel.state.over]
    dice.shuffle(live)
    if dice.random() < 0.5:
        for processor in range(processors):
            yield "run", [kernel.last(), processor, []], {}
        live = live[:dice.choice([1, 1, 2])]
    for thread in live:
        yield "join", [kernel.last(), dice.randrange(processors), thread], {}


def steps(dice, kernel, many):
    """Goes on count by count, and asks for most of what can be seen."""
    for number in range(many):
        at = kernel.last() + 1
        if many < 100 or number % 3 == 0:
            yield "take", [at], {}
        for clock in View(kernel).values:
            if dice.random() < 0.3:
                yield "read", [at, clock], {}
        for processor in range(kernel.state.settings.processors):
            yield "waiting", [at, processor], {}
        for thread in range(len(kernel.state.owners)):
            yield "sampled", [at, thread], {}
