"""Point 2 for kernels: wrong arguments of each call, alone and several at once; a call that raises changes nothing."""

import inspect
import unittest

from tests.support import NOT_INTEGERS, NOT_LISTS, OTHER_OBJECTS, check_wrong, is_raised
from timekernel import errors
from timekernel.kernel import Kernel

TOP = 2 ** 64 - 1
BELOW_0 = NOT_INTEGERS + [-1, -10 ** 50]
WRONG_AT = (errors.NoCycle, BELOW_0 + [0, 49])
NOT_CLOCKS = OTHER_OBJECTS + [
    0, 1, [], [1], (), (1,), ["thread", 0], ["steady"], "Steady", "steady ", "thread", "process", ("steady",),
    ("thread",), ("thread", 0, 0), ("thread", -1), ("thread", 4), ("thread", True), ("thread", None), ("thread", "0"),
    ("thread", 0.0), ("thread", [0]), ("process", 3), ("process", False), ("real", 0), ("Thread", 0), (0, "thread"),
    (None, 0), ([], 0), ({}, {}), (("thread", 0), 0)]
NO_CLOCK = (errors.NoClock, NOT_CLOCKS)
NO_READING = (errors.NoReading, NOT_INTEGERS)
NO_PROCESSOR = (errors.NoProcessor, BELOW_0 + [2, 10 ** 50])
# Process 1 is over, and with it thread 2; thread 0 runs on processor 0, thread 3 on processor 1, thread 1 on none.
NO_PROCESS = (errors.NoProcess, BELOW_0 + [1, 3, 10 ** 50])
DEAD_THREADS = BELOW_0 + [2, 4, 10 ** 50]
# Timer 0 is a live one on a clock, timer 1 was dropped, timer 2 is a tick timer, and timer 3 has expired.
NO_LIVE_TIMER = (errors.NoTimer, BELOW_0 + [1, 3, 4, 10 ** 50])
ROWS = [row for row in NOT_LISTS] + [[thread] for thread in DEAD_THREADS] + [[0, 0], [3], [1, 3], [0, 1, 1], [0, []]]

CALLS = {
    "look": ([50], []),
    "read": ([50, "real"], [NO_CLOCK]),
    "set_rate": ([50, 4], [(errors.NoRate, BELOW_0 + [0, TOP + 1, 1, 2])]),
    "set_real": ([50, 7], [NO_READING]),
    "slew": ([50, 3, 2], [(errors.NoSlew, NOT_INTEGERS + [0]), (errors.NoSlew, BELOW_0 + [0, 4, 10 ** 50])]),
    "stop": ([50, 3], [(errors.NoReading, BELOW_0)]),
    "put": ([50, "real", 9, 1, 2, True], [
        NO_CLOCK, NO_READING, (errors.NoSlack, BELOW_0),
        (errors.NoPeriod, [thing for thing in BELOW_0 if thing is not None] + [0]),
        (errors.NoFragile, [thing for thing in NOT_INTEGERS if not isinstance(thing, bool)] + [0, 1])]),
    "drop": ([50, 0], [NO_LIVE_TIMER]),
    "expired": ([50, 0], [(errors.NoTimer, BELOW_0 + [4, 10 ** 50])]),
    "take": ([50], []),
    "put_tick": ([50, 0, 11], [NO_PROCESSOR, (errors.NoTick, BELOW_0 + [0, 9, 10])]),
    "hand_over": ([50, 0, 1], [NO_PROCESSOR, (errors.NoProcessor, NO_PROCESSOR[1] + [0])]),
    "process": ([50], []),
    "thread": ([50, 0], [NO_PROCESS]),
    "run": ([50, 0, [1, 0], 3], [
        NO_PROCESSOR, (errors.NoThread, ROWS),
        (errors.NoQuantum, [thing for thing in BELOW_0 if thing is not None] + [0])]),
    "join": ([50, 0, 1], [NO_PROCESSOR, (errors.NoThread, DEAD_THREADS + [0, 3])]),
    "leave": ([50, 0], [(errors.NoThread, DEAD_THREADS + [1])]),
    "sleep": ([50, 0, 0], [(errors.NoThread, DEAD_THREADS + [1]), (errors.NoTimer, NO_LIVE_TIMER[1] + [2])]),
    "limit": ([50, 0, 99], [NO_PROCESS, (errors.NoReading, [thing for thing in NOT_INTEGERS if thing is not None])]),
    "running": ([50, 0], [NO_PROCESSOR]),
    "waiting": ([50, 0], [NO_PROCESSOR]),
    "sampled": ([50, 0], [(errors.NoThread, BELOW_0 + [4, 10 ** 50])]),
}
# What is no call: the clock goes ahead of the count and the reading.
OTHERS = {
    "when": (["real", 9], [NO_CLOCK, NO_READING]),
    "reading_at": (["real", 9], [NO_CLOCK, (errors.NoCycle, BELOW_0 + [51, 10 ** 50])]),
    "runs": (["real", 9], [(errors.NoClock, NOT_CLOCKS + [("thread", 0), ("process", 0)]), NO_READING]),
    "due": ([0], [NO_LIVE_TIMER]),
    "plan": ([60], [WRONG_AT]),
    "certificate": ([60], [WRONG_AT]),
}
MOVED = [(errors.NoWidth, BELOW_0 + [0, 65]),
         (errors.NoRate, OTHER_OBJECTS + [[3, 1], (), (3,), (0, 1), (TOP + 1, 1), (3, 65), (3, -1), (True, 1)])]
KEYWORDS = {"put": ["slack", "period", "fragile"], "run": ["quantum"]}


def made():
    """A kernel at cycle and count 50, whose multiplier is 4 and whose present tick is 10."""
    kernel = Kernel(16, (4, 2), processors=2, tick=5)
    for _ in range(3):
        kernel.process(0)
    for process in (0, 0, 1, 2):
        kernel.thread(0, process)
    kernel.limit(0, 1, 0)
    kernel.put(0, "boot", 60, slack=5)
    kernel.put(0, "boot", 60)
    kernel.drop(0, 1)
    kernel.put_tick(0, 0, 12)
    kernel.put(0, "steady", 30)
    kernel.run(0, 0, [0], quantum=3)
    kernel.run(0, 1, [3])
    kernel.slew(50, 20, 3)
    return kernel


def method(kernel, name):
    """A method all of whose arguments are passed by position."""
    words = KEYWORDS.get(name, [])

    def called(*rest):
        first = rest[:len(rest) - len(words)]
        return getattr(kernel, name)(*first, **dict(zip(words, rest[len(first):])))
    return called


def look_of(kernel):
    """What can be seen of a kernel."""
    twin = kernel.twin()
    seen = [kernel.count(), kernel.missed(), kernel.last(), kernel.slew_left(), kernel.log(), kernel.timers()]
    clocks = ["steady", "real", "boot", ("thread", 0), ("thread", 3), ("process", 0)]
    seen.append([kernel.reading_at(clock, kernel.count()) for clock in clocks])
    if kernel.log()[-1][0] != "stop":
        seen.extend([kernel.windows(), twin.take(50), twin.waiting(50, 0), twin.waiting(50, 1), twin.sampled(90, 0)])
    return seen


class WrongCalls(unittest.TestCase):
    def test_each_call(self):
        for name, (good, wrong) in CALLS.items():
            with self.subTest(name):
                kernel = made()
                before = look_of(kernel)
                check_wrong(self, method(kernel, name), good, [WRONG_AT] + wrong)
                self.assertEqual(look_of(kernel), before)
                method(kernel, name)(*good)
                self.assertEqual(kernel.log()[-1], (name, *good))

    def test_what_is_no_call(self):
        kernel = made()
        before = look_of(kernel)
        for name, (good, wrong) in OTHERS.items():
            with self.subTest(name):
                check_wrong(self, getattr(kernel, name), good, wrong)
                getattr(kernel, name)(*good)
        kernel.set_real(50, 0)
        check_wrong(self, kernel.moved, [8, (3, 1)], MOVED)
        self.assertNotEqual(look_of(kernel), before)

    def test_errors_that_depend_on_what_happens_up_to_the_call(self):
        kernel = made()
        kernel.sleep(50, 3, 0)
        kernel.limit(50, 0, 55)
        before = look_of(kernel)
        # Tick 12 begins at 60, the timer on boot expires at 60, and process 0 is over at 55.
        for name, rest, error in (
                ("put_tick", (59, 0, 11), errors.NoTick), ("put_tick", (60, 0, 12), errors.NoTick),
                ("drop", (60, 2), errors.NoTimer), ("drop", (60, 0), errors.NoTimer),
                ("join", (60, 0, 3), errors.NoThread), ("leave", (59, 3), errors.NoThread),
                ("leave", (55, 0), errors.NoThread), ("thread", (55, 0), errors.NoProcess),
                ("sleep", (60, 3, 0), errors.NoTimer), ("limit", (55, 0, None), errors.NoProcess),
                ("join", (50, 0, 0), errors.NoThread), ("set_rate", (56, 3), errors.NoRate)):
            is_raised(self, error, getattr(kernel, name), rest)
            self.assertEqual(look_of(kernel), before, (name, rest))
        kernel.set_rate(77, 3)
        self.assertEqual(kernel.log()[-1], ("set_rate", 77, 3))

    def test_fragile_is_for_the_real_clock(self):
        kernel = made()
        for clock in ("steady", "boot", ("thread", 0), ("process", 2)):
            is_raised(self, errors.NoFragile, lambda clock: kernel.put(50, clock, 9, fragile=True), [clock])
            kernel.put(50, clock, 9, fragile=False)
        kernel.put(50, "real", 9, fragile=True)

    def test_a_stopped_kernel(self):
        kernel = made()
        is_raised(self, errors.NotStopped, kernel.go, ["x"])
        is_raised(self, errors.NotStopped, kernel.alarm, [])
        kernel.stop(50, 3)
        before = look_of(kernel)
        for name, (good, _) in {**CALLS, **OTHERS, "moved": ([8, (3, 1)], [])}.items():
            if name not in ("reading_at", "runs", "due"):
                is_raised(self, errors.Stopped, method(kernel, name), good)
                is_raised(self, errors.Stopped, method(kernel, name), [[] for _ in good])
        is_raised(self, errors.Stopped, kernel.windows, [])
        for reading in NOT_INTEGERS + [2, -1]:
            is_raised(self, errors.NoReading, kernel.go, [reading])
        self.assertEqual(look_of(kernel), before)
        self.assertEqual([kernel.due(0), kernel.reading_at("real", 50), kernel.runs("boot", 3)], [60, 50, [(3, 3)]])
        kernel.go(3)
        is_raised(self, errors.NotStopped, kernel.go, [3])


class Settings(unittest.TestCase):
    WRONG = [
        (errors.NoWidth, BELOW_0 + [0, 65]), MOVED[1], (errors.NoProcessor, BELOW_0 + [0, 9]),
        (errors.NoTick, BELOW_0 + [0]), (errors.NoLevels, BELOW_0 + [0, 1, 65]),
        (errors.NoLevels, [thing for thing in NOT_LISTS if thing is not None] + [
            [], ["queue"] * 61, ["Stack"], ["stack", "heap"], [0], [None], [[]], ["stack", {}], ("stack",), "stack"]),
        (errors.NoReading, BELOW_0 + [0])]

    def test_wrong(self):
        check_wrong(self, lambda width, rate, processors, tick, base, levels, coarse: Kernel(
            width, rate, processors=processors, tick=tick, base=base, levels=levels, coarse=coarse),
            [8, (3, 1), 2, 5, 4, ["stack"], 2], self.WRONG)

    def test_edges(self):
        Kernel(1, (1, 0), processors=1, tick=1, base=2, levels=None, coarse=1)
        Kernel(64, (TOP, 64), processors=8, tick=10 ** 59, base=64, levels=["stack", "queue"] * 30, coarse=10 ** 59)

    def test_the_interface(self):
        words = {"self": inspect.Parameter.POSITIONAL_OR_KEYWORD}
        listed = """look(at) read(at,clock) set_rate(at,mult) set_real(at,reading) slew(at,amount,step) stop(at,reading)
            go(reading) put(at,clock,due,*,slack=0,period=None,fragile=False) drop(at,timer) expired(at,timer) take(at)
            put_tick(at,processor,due) hand_over(at,processor,other) process(at) thread(at,process)
            run(at,processor,threads,*,quantum=None) join(at,processor,thread) leave(at,thread) sleep(at,thread,timer)
            limit(at,process,reading) running(at,processor) waiting(at,processor) sampled(at,thread) count() missed()
            last() slew_left() alarm() when(clock,reading) reading_at(clock,count) runs(clock,reading) timers()
            due(timer) windows() plan(until) certificate(until) twin() moved(width,rate) log()
            __init__(width,rate,*,processors=1,tick=1,base=2,levels=None,coarse=1)"""
        for text in listed.split():
            name, rest = text.split("(")
            found = inspect.signature(Kernel.__dict__[name])
            given = str(found.replace(parameters=[part for part in found.parameters.values() if part.name not in words]))
            self.assertEqual(given.replace(" ", ""), "(" + rest, name)
