"""Random rows of calls, made on the kernel and on the slow model, which must agree in all that they return."""

import random

from tests.model import HORIZON, PLAIN, Slow
from timekernel import errors
from timekernel.kernel import Kernel

STRANGE = [None, True, False, -1, 99, "x", (1,), [0], {}, ("thread", True), ("process", 77), 1.0, set()]


def settings(dice):
    """Random arguments of a kernel: small numbers, so that much happens at few counts."""
    return (dice.randint(2, 7), (dice.randint(1, 9), dice.randint(0, 3))), {
        "processors": dice.randint(1, 3), "tick": dice.randint(1, 6), "base": dice.randint(2, 4),
        "levels": dice.choice([None, ["stack"], ["queue", "stack"], ["stack", "queue", "stack"]]),
        "coarse": dice.randint(1, 3)}


def clock_of(dice, slow):
    return dice.choice(PLAIN + tuple(clock for clock in slow.values if clock not in PLAIN) * 2)


def number(dice, many):
    """Most often a number that there is."""
    return dice.randrange(many) if many and dice.random() < 0.97 else dice.randint(0, 3)


def one_of(dice, fitting, many):
    """Most often a fitting number, if there is one."""
    return dice.choice(fitting) if fitting and dice.random() < 0.85 else number(dice, many)


def a_thread(dice, slow, is_queued):
    """Most often a thread that is in a queue, or one that is in none."""
    return one_of(dice, [thread for thread in range(len(slow.owner)) if not slow.over[slow.owner[thread]]
                         and (slow.place(thread) is not None) == is_queued], len(slow.owner))


def a_timer(dice, slow):
    """Most often a live timer on a clock."""
    return one_of(dice, [timer for timer in slow.live if slow.live[timer].clock is not None], len(slow.counts))


def a_list(dice, slow, processor):
    """A queue of threads, most often of those that are in no other one."""
    threads = [thread for thread in range(len(slow.owner))
               if dice.random() < 0.03 or not slow.over[slow.owner[thread]] and slow.place(thread) in (None, processor)]
    return dice.sample(threads, dice.choice([0, len(threads), len(threads), dice.randint(0, len(threads))]))


def near(dice, slow, clock):
    return slow.value_reading(clock) + dice.choice([-3, 0, 1, 1, 2, 3, 5, 8, 13, 30])


def some(dice, weights):
    return dice.choices(list(weights), list(weights.values()))[0]


CALLS = {"look": 4, "read": 3, "set_rate": 1, "set_real": 2, "slew": 2, "stop": 1, "put": 7, "drop": 1, "expired": 1,
         "take": 3, "put_tick": 4, "hand_over": 1, "process": 1, "thread": 2, "run": 3, "join": 5, "leave": 2,
         "sleep": 5, "limit": 2, "running": 1, "waiting": 3, "sampled": 5}


def arguments(dice, slow, name):
    """Random arguments of a call behind `at`, and those by keyword."""
    threads, processes, one = len(slow.owner), len(slow.over), 1 << max(slow.shift - 3, 0)
    clock = clock_of(dice, slow)
    processor = number(dice, slow.processors)
    if name == "put":
        more = {"slack": dice.randint(0, 5), "period": dice.choice([None, None, 1, 2, 5, 9]),
                "fragile": clock == "real" and dice.random() < 0.5}
        return [clock, near(dice, slow, clock)], {word: more[word] for word in more if dice.random() < 0.8}
    if name == "run":
        quantum = {"quantum": dice.choice([None, 1, 2, 3, 5, 9, 14])}
        return [processor, a_list(dice, slow, processor)], dice.choice([{}, quantum, quantum, quantum])
    return {
        "look": [], "read": [clock], "set_rate": [dice.randint(one, 9 * one)], "set_real": [near(dice, slow, "real")],
        "slew": [dice.choice([-5, -1, 1, 2, 9]), dice.randint(one, 6 * one)], "stop": [dice.randint(0, 4)],
        "go": [(slow.halted or 0) + dice.randint(-1, 7)], "drop": [a_timer(dice, slow)],
        "expired": [number(dice, len(slow.counts))], "take": [],
        "put_tick": [processor, slow.present_tick() + dice.randint(0, 9)],
        "hand_over": [processor, dice.randint(0, slow.processors - 1)], "process": [],
        "thread": [number(dice, processes)], "join": [processor, a_thread(dice, slow, False)],
        "leave": [a_thread(dice, slow, True)], "sleep": [a_thread(dice, slow, True), a_timer(dice, slow)],
        "limit": [number(dice, processes), dice.choice([None, 0, dice.randint(0, 60), dice.randint(0, 60)])],
        "running": [processor],
        "waiting": [processor], "sampled": [number(dice, threads)]}[name], {}


def a_call(dice, slow, longest):
    """A random call: its name, its arguments and those by keyword."""
    name = some(dice, CALLS) if slow.halted is None or dice.random() < 0.2 else "go"
    rest, more = arguments(dice, slow, name)
    rest = list(rest)
    if dice.random() < 0.05 and rest:
        rest[dice.randrange(len(rest))] = dice.choice(STRANGE)
    if name == "go":
        return name, rest, more
    gap = dice.choice([0, 0, 0, 1, 1, 2, 3, dice.randint(0, longest)])
    return name, [dice.choice([slow.at - 1, None, True]) if dice.random() < 0.02 else slow.at + gap] + rest, more


def beginning(dice, slow):
    """Calls that make processes and threads; most rows begin with them."""
    processes, threads = dice.choice([(0, 0), (1, 3), (2, 4), (3, 7)])
    return ([("process", [slow.at], {})] * processes
            + [("thread", [slow.at, dice.randrange(processes)], {}) for _ in range(threads)])


def outcome(function, *values, **more):
    """What a call returns, or the name of its error."""
    try:
        return ("returns", function(*values, **more))
    except errors.KernelError as error:
        return ("raises", type(error).__name__)


def both(case, kernel, slow, name, rest, more, told):
    """Makes a call on both."""
    fast = outcome(getattr(kernel, name), *rest, **more)
    case.assertEqual(fast, outcome(slow.call, name, *rest, **more), (told, name, rest, more))
    return fast


def seen(cycle, slow):
    """A cycle as far as the slow model can see it, and the one behind it."""
    return None if cycle is None or cycle >= slow.at + HORIZON - 1 else cycle


def seen_windows(windows, slow):
    """Windows, or an error, as far as the slow model can see them."""
    if windows[0] == "raises":
        return windows
    return [(first, seen(last, slow), timer) for first, last, timer in windows[1] if seen(first, slow) is not None]


def compare(case, dice, kernel, slow, told):
    """Compares what the methods return that are no calls."""
    for name in ("count", "missed", "last", "slew_left", "timers", "alarm", "log"):
        case.assertEqual(outcome(getattr(kernel, name)), outcome(getattr(slow, name)), (told, name))
    for timer in range(-1, len(slow.counts) + 1):
        case.assertEqual(outcome(kernel.due, timer), outcome(slow.due, timer), (told, "due", timer))
    for clock in list(slow.values) + [("thread", 99), "boots", None]:
        count = dice.randint(max(slow.begin - 1, slow.far), slow.c + 1)
        for at in {count, slow.c}:
            case.assertEqual(outcome(kernel.reading_at, clock, at), outcome(slow.reading_at, clock, at),
                             (told, "reading_at", clock, at))
        reading = slow.value_reading("boot") - dice.randint(-2, 30)
        case.assertEqual(since(outcome(kernel.runs, clock, reading), slow.far), outcome(slow.runs, clock, reading),
                         (told, "runs", clock, reading))


def since(runs, far):
    """Stretches of counts, or an error, from a count on."""
    if runs[0] == "raises":
        return runs
    return ("returns", [(max(first, far), last) for first, last in runs[1] if last >= far])


def compare_future(case, dice, kernel, slow, told):
    """Compares what the methods return that tell what would happen."""
    for clock in list(slow.values) + [("process", 99), []]:
        reading = slow.value_reading(clock) + dice.randint(-9, 60) if clock in list(slow.values) else 5
        fast, other = outcome(kernel.when, clock, reading), outcome(slow.when, clock, reading)
        if fast[0] == other[0] == "returns":
            fast, other = seen(fast[1], slow), seen(other[1], slow)
        case.assertEqual(fast, other, (told, "when", clock, reading))
    case.assertEqual(seen_windows(outcome(kernel.windows), slow), seen_windows(outcome(slow.windows), slow), told)
    until = slow.at + dice.randint(-1, HORIZON - 10)
    case.assertEqual(outcome(kernel.plan, until), outcome(slow.plan, until), (told, "plan", until))
    case.assertEqual(outcome(kernel.certificate, until), outcome(slow.certificate, until), (told, until))


def far_settings(dice):
    """Random arguments of a kernel that counts long gaps, of a rate that reads a few units for each count."""
    _, named = settings(dice)
    return (64, (dice.randrange(2 ** 39, 2 ** 43), 40)), named


def a_row(case, seed, many, far=0):
    """Makes a random row of calls on both, from a far count on, and compares everything."""
    dice = random.Random(seed)
    positional, named = far_settings(dice) if far else settings(dice)
    kernel, slow = Kernel(*positional, **named), Slow(*positional, **named, far=far)
    if far:
        kernel.look(far)
    told = (seed, positional, named)
    longest = dice.choice([2, 9, 40, 100])
    begun = beginning(dice, slow)
    for k in range(many):
        name, rest, more = begun[k] if k < len(begun) else a_call(dice, slow, longest)
        both(case, kernel, slow, name, rest, more, (told, k))
        if dice.random() < 0.15:
            compare(case, dice, kernel, slow, (told, k))
        if dice.random() < 0.06:
            compare_future(case, dice, kernel, slow, (told, k))
        if dice.random() < 0.02:
            kernel, slow = changed(case, dice, kernel, slow, (told, k))
    compare(case, dice, kernel, slow, (told, "end"))
    compare_future(case, dice, kernel, slow, (told, "end"))


def changed(case, dice, kernel, slow, told):
    """Goes on with twins, or with moved kernels."""
    if dice.random() < 0.4:
        twin = kernel.twin()
        kernel.state = None
        return twin, slow.twin()
    width, rate = dice.choice([1, 5, 6, 7, 7, 0]), (dice.randint(1, 9), dice.randint(0, 4))
    fast, other = outcome(kernel.moved, width, rate), outcome(slow.moved, width, rate)
    case.assertEqual(fast[0], other[0], told)
    if fast[0] == "raises":
        case.assertEqual(fast, other, told)
        return kernel, slow
    return fast[1], other[1]
