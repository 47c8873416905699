"""Points 23 to 25: kernels compared, twins and moved kernels."""

import inspect
import random
import unittest

from tests.rows import a_call
from tests.search import View, made, random_calls, random_kernel, random_log_kernel, row_apart
from tests.support import OTHER_OBJECTS, is_raised
from timekernel import errors
from timekernel.compare import alike_from_now, first_unlike
from timekernel.kernel import Kernel
from timekernel.logs import replayed

TOP = 2 ** 64 - 1
FAR = 10 ** 50
NOT_KERNELS = [thing for thing in OTHER_OBJECTS if not isinstance(thing, Kernel)] + [
    0, 8, (8, (3, 1)), [], [Kernel(8, (3, 1))], ([], {})]
NAMED = {"processors": 2, "tick": 5, "base": 3, "levels": ["stack", "queue"], "coarse": 2}


def after(*rows, kernel=None):
    """A kernel on which calls have been made."""
    kernel = kernel or Kernel(16, (4, 2), **NAMED)
    for name, *rest in rows:
        words = {"put": 4, "run": 4}.get(name, len(rest))
        more = rest[words - 1] if len(rest) == words and isinstance(rest[-1], dict) else {}
        getattr(kernel, name)(*(rest[:-1] if more else rest), **more)
    return kernel


# Two processes; threads 0, 1 and 3 are of process 0, thread 2 is of process 1.
PEOPLE = [("process", 0), ("process", 0), ("thread", 0, 0), ("thread", 0, 0), ("thread", 0, 1), ("thread", 0, 0)]
OVER = [*PEOPLE, ("limit", 0, 0, -1)]

# Rows of calls behind which kernels are not alike.
APART = {
    "the count": ([("look", 2 ** 16)], [("look", 5), ("look", 2 ** 16)]),
    "the steady clock": ([("set_rate", 0, 5), ("set_rate", 1, 4)], [("look", 1)]),
    "the real clock": ([("set_real", 3, 2)], [("set_real", 3, 4)]),
    "a part of the real clock": ([("slew", 0, 1, 1), ("slew", 2, 1, 1)], [("slew", 1, 1, 1), ("slew", 2, 1, 1)]),
    "the boot clock": ([("stop", 3, 1), ("go", 2), ("set_real", 3, 0)], [("set_real", 3, 0)]),
    "the multiplier": ([("set_rate", 3, 5)], [("look", 3)]),
    "a slew": ([("slew", 3, 7, 2)], [("look", 3)]),
    "the rest of a slew": ([("slew", 3, 7, 2)], [("slew", 3, 8, 2)]),
    "the sign of a slew": ([("slew", 3, 7, 2)], [("slew", 3, -7, 2)]),
    "the step of a slew": ([("slew", 3, 7, 2)], [("slew", 3, 7, 3)]),
    "the step of a slew with one part left": ([("slew", 0, 1, 1), ("look", 3)], [("slew", 2, 1, 3), ("look", 3)]),
    "whether it is stopped": ([("stop", 3, 0)], [("look", 3)]),
    "the reading at which it is stopped": ([("stop", 3, 0)], [("stop", 3, 1)]),
    "a live timer": ([("put", 3, "boot", 99)], [("put", 3, "boot", 99), ("drop", 3, 0)]),
    "its clock": ([("put", 3, "boot", 99)], [("put", 3, "steady", 99)]),
    "its due reading": ([("put", 3, "boot", FAR)], [("put", 3, "boot", FAR + 1)]),
    "its period": ([("put", 3, "boot", FAR, {"period": FAR})], [("put", 3, "boot", FAR, {"period": FAR + 1})]),
    "whether it has a period": ([("put", 3, "boot", 99, {"period": 7})], [("put", 3, "boot", 99)]),
    "whether it is fragile": ([("put", 3, "real", 99, {"fragile": True})], [("put", 3, "real", 99)]),
    "the number of timers": ([("put", 3, "boot", 99), ("drop", 3, 0)], [("look", 3)]),
    "expirations": ([("put", 3, "boot", 3), ("take", 3)], [("put", 3, "boot", 9), ("drop", 3, 0), ("take", 3)]),
    "how many expirations": ([("put", 3, "boot", 3, {"period": 1}), ("drop", 3, 0), ("take", 3)],
                             [("put", 3, "boot", 2, {"period": 1}), ("drop", 3, 0), ("take", 3)]),
    "what was not taken": ([("put", 3, "boot", 3)], [("put", 3, "boot", 3), ("take", 3)]),
    "the count of what was not taken": ([("put", 1, "boot", 1), ("look", 3)], [("put", 2, "boot", 1), ("look", 3)]),
    "how often it expired of that": ([("put", 3, "boot", 2, {"period": 1}), ("take", 3), ("put", 3, "real", 3)],
                                     [("put", 3, "boot", 2, {"period": 1}), ("put", 3, "real", 3)]),
    "how often it expired since the last take": (
        [("put", 3, "real", 3, {"period": 1}), ("take", 3), ("set_real", 3, 4)],
        [("put", 3, "real", 3, {"period": 1}), ("set_real", 3, 4)]),
    "which timer was not taken": ([("put", 0, "boot", 3), ("put", 0, "boot", 2), ("take", 2), ("look", 3)],
                                  [("put", 0, "boot", 2), ("put", 0, "boot", 3), ("take", 2), ("look", 3)]),
    "what was broken": ([("put", 3, "real", 99, {"fragile": True}), ("set_real", 3, 3)],
                        [("put", 3, "real", 99, {"fragile": True}), ("drop", 3, 0), ("set_real", 3, 3)]),
    "the kind of what was not taken at this count": (
        [("put_tick", 0, 0, 1), ("look", 5)], [("put", 0, "steady", 5), ("look", 5)]),
    "the order of what was not taken": (
        [("put_tick", 0, 0, 1), ("put", 5, "steady", -1), ("look", 6)],
        [("put", 0, "steady", 5), ("put", 5, "steady", -1), ("look", 6)]),
    "a tick timer": ([("put_tick", 3, 0, 9)], [("put_tick", 3, 0, 8)]),
    "its processor": ([("put_tick", 3, 0, 9)], [("put_tick", 3, 1, 9)]),
    "the order of tick timers": ([("put_tick", 0, 0, 7), ("put_tick", 0, 0, 7), ("hand_over", 0, 0, 1)],
                                 [("put_tick", 0, 1, 7), ("put_tick", 0, 1, 7)]),
    "a tick timer or another one": ([("put_tick", 3, 0, 9)], [("put", 3, "steady", 45)]),
    "processes": ([("process", 3)], [("look", 3)]),
    "that a process is over": ([("process", 3), ("limit", 3, 0, 0)], [("process", 3)]),
    "a limit": ([("process", 3), ("limit", 3, 0, 9)], [("process", 3)]),
    "the reading of a limit": ([("process", 3), ("limit", 3, 0, FAR)], [("process", 3), ("limit", 3, 0, FAR + 1)]),
    "threads": ([*PEOPLE, ("thread", 3, 1)], [*PEOPLE, ("look", 3)]),
    "the process of a thread": ([("process", 3), ("process", 3), ("thread", 3, 0)],
                                [("process", 3), ("process", 3), ("thread", 3, 1)]),
    "the clock of a thread": ([*PEOPLE, ("run", 0, 0, [0]), ("run", 4, 0, [])],
                              [*PEOPLE, ("run", 0, 0, [1]), ("run", 4, 0, [])]),
    "a part of the clock of a thread": (
        [*PEOPLE, ("set_rate", 0, 5), ("run", 0, 0, [0]), ("run", 1, 0, []), ("set_rate", 1, 3), ("set_rate", 2, 4)],
        [*PEOPLE, ("set_rate", 0, 5), ("look", 1), ("run", 1, 0, [0]), ("set_rate", 1, 3), ("run", 2, 0, []),
         ("set_rate", 2, 4)]),
    "the clock of a process": ([*PEOPLE, ("run", 0, 0, [0]), ("run", 4, 0, []), ("run", 4, 0, [0]), ("run", 5, 0, [])],
                               [*PEOPLE, ("run", 0, 0, [0]), ("run", 4, 0, []), ("look", 5)]),
    "queues": ([*PEOPLE, ("run", 3, 0, [0])], [*PEOPLE, ("look", 3)]),
    "whose queue it is": ([*PEOPLE, ("run", 3, 0, [0])], [*PEOPLE, ("run", 3, 1, [0])]),
    "the order of a queue": ([*PEOPLE, ("run", 3, 0, [0, 1, 2])], [*PEOPLE, ("run", 3, 0, [0, 2, 1])]),
    "a quantum": ([*PEOPLE, ("run", 3, 0, [0, 1], {"quantum": FAR})], [*PEOPLE, ("run", 3, 0, [0, 1])]),
    "how long a quantum is": ([*PEOPLE, ("run", 3, 0, [0, 1], {"quantum": FAR})],
                              [*PEOPLE, ("run", 3, 0, [0, 1], {"quantum": FAR + 1})]),
    "the quantum of an empty queue": ([("run", 3, 0, [], {"quantum": 4})], [("run", 3, 0, [], {"quantum": 5})]),
    "the quantum of a queue that was never run": ([("run", 3, 1, [], {"quantum": 4})], [("look", 3)]),
    "how far a turn is": ([*PEOPLE, ("run", 3, 0, [0], {"quantum": 4}), ("look", 4)],
                          [*PEOPLE, ("run", 3, 0, [0], {"quantum": 4}), ("run", 4, 0, [0], {"quantum": 4})]),
    "a sleeper": ([*PEOPLE, ("put", 0, "real", 9), ("run", 3, 0, [2]), ("sleep", 3, 2, 0)],
                  [*PEOPLE, ("put", 0, "real", 9), ("run", 3, 0, [2]), ("leave", 3, 2)]),
    "the timer of a sleeper": (
        [*PEOPLE, ("put", 0, "real", 9), ("put", 0, "real", 9), ("run", 3, 0, [2]), ("sleep", 3, 2, 0)],
        [*PEOPLE, ("put", 0, "real", 9), ("put", 0, "real", 9), ("run", 3, 0, [2]), ("sleep", 3, 2, 1)]),
    "the processor of a sleeper": (
        [*PEOPLE, ("put", 0, "real", 9), ("run", 3, 0, [2]), ("sleep", 3, 2, 0)],
        [*PEOPLE, ("put", 0, "real", 9), ("run", 3, 1, [2]), ("sleep", 3, 2, 0)]),
    "a sleeper on the clock of its process": (
        [*PEOPLE, ("put", 0, ("process", 1), 9), ("run", 3, 0, [2]), ("sleep", 3, 2, 0)],
        [*PEOPLE, ("put", 0, ("process", 1), 9), ("run", 3, 0, [2]), ("leave", 3, 2)]),
    "samples": ([*PEOPLE, ("run", 0, 0, [0, 1], {"quantum": 5}), ("run", 10, 0, [])],
                [*PEOPLE, ("run", 0, 0, [1, 0], {"quantum": 5}), ("run", 10, 0, [])]),
    "the ticks that begin at this count": (
        [("set_rate", 0, 19), ("set_rate", 1, 2), ("set_rate", 2, 4)],
        [("set_rate", 0, 20), ("set_rate", 1, 1), ("set_rate", 2, 4)]),
    "the clock of a process that is over": ([*PEOPLE, ("run", 0, 0, [0]), ("limit", 0, 0, 3), ("look", 9)],
                                            [*PEOPLE, ("run", 0, 0, [0]), ("limit", 0, 0, 4), ("look", 9)]),
    "which process that is over used the time": (
        [("process", 0), ("process", 0), ("thread", 0, 0), ("run", 0, 0, [0]), ("limit", 3, 0, 0), ("limit", 3, 1, 0)],
        [("process", 0), ("process", 0), ("thread", 0, 1), ("run", 0, 0, [0]), ("limit", 3, 0, 0), ("limit", 3, 1, 0)]),
    "that a thread is over": ([("process", 0), ("process", 0), ("thread", 0, 1), ("limit", 0, 1, 0)],
                              [("process", 0), ("process", 0), ("thread", 0, 0), ("limit", 0, 1, 0)]),
    "which thread of it used the time": ([*PEOPLE, ("run", 0, 0, [0]), ("limit", 0, 0, 3), ("look", 9)],
                                         [*PEOPLE, ("run", 0, 0, [1]), ("limit", 0, 0, 3), ("look", 9)]),
    "a live timer on such a clock": ([*OVER, ("put", 0, ("thread", 0), 9)],
                                     [*OVER, ("put", 0, ("thread", 0), 9), ("drop", 0, 0)]),
    "a live timer on such a clock or on another one": ([*OVER, ("put", 0, ("thread", 0), 9)],
                                                       [*OVER, ("put", 0, ("thread", 2), 9)]),
}

SLEEPY = [*PEOPLE, ("run", 0, 0, [2, 0], {"quantum": 7})]

# Rows of calls behind which kernels are alike.
ALIKE = {
    "slack": ([("put", 3, "boot", 99, {"slack": 5})], [("put", 3, "boot", 99, {"slack": 0})]),
    "history": ([("set_real", 1, 9), ("set_real", 3, 3)], [("look", 2), ("set_real", 3, 3)]),
    "looks": ([("look", 1), ("read", 2, "real"), ("take", 3)], [("look", 3)]),
    "missed wraps": ([("look", 5 + 7 * 2 ** 16)], [("look", 3 * 2 ** 16), ("look", 5 + 7 * 2 ** 16)]),
    "a slew that is over": ([("slew", 0, 1, 3), ("set_real", 3, 3)], [("slew", 0, -1, 1), ("set_real", 3, 3)]),
    "slews that came to the same": ([("slew", 0, 1, 1), ("look", 9)], [("slew", 0, 1, 2), ("look", 9)]),
    "stops": ([("stop", 3, 7), ("go", 7)], [("look", 3)]),
    "how far a turn without a quantum is": ([*PEOPLE, ("run", 0, 0, [0]), ("run", 3, 0, [0])],
                                            [*PEOPLE, ("run", 0, 0, [0]), ("look", 3)]),
    "an empty queue has no turn": ([("run", 0, 0, [], {"quantum": 5}), ("look", 3)],
                                   [("run", 3, 0, [], {"quantum": 5})]),
    "first due readings": ([("put", 0, "boot", 2, {"period": 3}), ("take", 3)],
                           [("put", 2, "boot", 2, {"period": 3}), ("take", 3)]),
    "the kind of what was not taken long since": (
        [("put_tick", 0, 0, 1), ("look", 9)], [("put", 0, "steady", 5), ("look", 9)]),
    "the due tick of what was not taken": (
        [("put_tick", 0, 0, 1), ("set_rate", 0, 44), ("look", 1)],
        [("put_tick", 0, 0, 2), ("set_rate", 0, 44), ("look", 1)]),
    "the order of ticks and others long since": (
        [("put", 0, "steady", 5), ("put_tick", 0, 0, 1), ("look", 9)],
        [("put_tick", 0, 0, 1), ("put_tick", 0, 1, 1), ("look", 9)]),
    "ways to the same order of tick timers": (
        [("put_tick", 0, 0, 6), ("put_tick", 0, 0, 6), ("hand_over", 0, 0, 1), ("hand_over", 0, 1, 0)],
        [("put_tick", 0, 0, 6), ("put_tick", 0, 0, 6)]),
    "a limit that was taken back": ([("process", 0), ("limit", 0, 0, 9), ("limit", 3, 0, None)],
                                    [("process", 0), ("look", 3)]),
    "a sleeper whose timer was dropped": (
        [*SLEEPY, ("put", 0, "boot", 9), ("sleep", 3, 2, 0), ("drop", 3, 0)],
        [*SLEEPY, ("put", 0, "boot", 9), ("leave", 3, 2), ("drop", 3, 0)]),
    "a sleeper whose timer was broken": (
        [*SLEEPY, ("put", 0, "real", 9, {"fragile": True}), ("sleep", 3, 2, 0), ("set_real", 3, 3)],
        [*SLEEPY, ("put", 0, "real", 9, {"fragile": True}), ("leave", 3, 2), ("set_real", 3, 3)]),
    "a sleeper whose timer stands still": (
        [*OVER, ("run", 0, 0, [2]), ("put", 0, ("process", 0), 9), ("sleep", 3, 2, 0)],
        [*OVER, ("run", 0, 0, [2]), ("put", 0, ("process", 0), 9), ("leave", 3, 2)]),
    "a sleeper on its own clock": (
        [*SLEEPY, ("put", 0, ("thread", 2), 9), ("sleep", 3, 2, 0)],
        [*SLEEPY, ("put", 0, ("thread", 2), 9), ("leave", 3, 2)]),
    "a sleeper that was woken": (
        [*SLEEPY, ("put", 0, "boot", 9), ("sleep", 3, 2, 0), ("join", 3, 0, 2)],
        [*SLEEPY, ("put", 0, "boot", 9), ("leave", 3, 2), ("join", 3, 0, 2)]),
    "a timer on a clock that stands still": (
        [*OVER, ("put", 0, ("thread", 0), 9, {"period": 2, "slack": 1})], [*OVER, ("put", 0, ("process", 0), 7)]),
    "a timer on what is over later": (
        [*PEOPLE, ("put", 0, ("thread", 1), 9), ("limit", 3, 0, 0)],
        [*PEOPLE, ("put", 0, ("thread", 1), 5), ("limit", 3, 0, -9)]),
    "the process of a thread that is over": (
        [("process", 0), ("process", 0), ("thread", 0, 0), ("limit", 0, 0, 0), ("limit", 0, 1, 0)],
        [("process", 0), ("process", 0), ("thread", 0, 1), ("limit", 0, 0, 0), ("limit", 0, 1, 0)]),
    "a part of the clock of a thread that is over": (
        [*PEOPLE, ("set_rate", 0, 5), ("run", 0, 0, [0]), ("limit", 0, 0, 1), ("look", 1), ("set_rate", 1, 3),
         ("set_rate", 2, 4)],
        [*PEOPLE, ("run", 0, 0, [0]), ("limit", 0, 0, 1), ("look", 1), ("set_rate", 2, 4)]),
    "what was taken": ([("put", 0, "boot", 2), ("take", 2), ("take", 3)], [("put", 0, "boot", 1), ("take", 3)]),
}


class Alike(unittest.TestCase):
    def check(self, one, other, alike, told):
        before = [one.log(), other.log()]
        self.assertIs(alike_from_now(one, other), alike, told)
        self.assertIs(alike_from_now(other, one), alike, told)
        self.assertEqual([one.log(), other.log()], before)

    def test_what_can_tell_kernels_apart(self):
        for told, (rows, other) in APART.items():
            with self.subTest(told):
                one, two = after(*rows), after(*other)
                self.check(one, two, False, told)
                for kernel in (one, two):
                    self.check(kernel, kernel.twin(), True, told)
                if "stopped" in told:
                    continue
                for kernel in (one, two):
                    kernel.stop(kernel.last(), 5)
                self.check(one, two, False, told)
                self.check(one, one.twin(), True, told)

    def test_what_cannot_tell_kernels_apart(self):
        for told, (rows, other) in ALIKE.items():
            with self.subTest(told):
                one, two = after(*rows), after(*other)
                self.check(one, two, True, told)
                self.assertIsNone(row_apart(random.Random(told), one, two, 4), told)
                for kernel in (one, two):
                    kernel.stop(kernel.last(), 5)
                self.check(one, two, True, told)
                self.assertIsNone(row_apart(random.Random(told), one, two, 4), told)
                for kernel in (one, two):
                    kernel.go(9)
                    kernel.look(kernel.last() + 11)
                self.check(one, two, True, told)

    def test_the_multiplier_may_differ(self):
        self.assertIs(alike_from_now(Kernel(8, (3, 1)), Kernel(8, (4, 1))), False)
        one, other = Kernel(8, (3, 1)), Kernel(8, (4, 1))
        for kernel in (one, other):
            kernel.set_rate(0, 9)
        self.assertIs(alike_from_now(one, other), True)

    def test_the_count_alone(self):
        one, other = Kernel(2, (5, 0), tick=100), Kernel(2, (1, 0), tick=100)
        other.look(2)
        for kernel in (one, other):
            kernel.set_rate(5, 3)
        self.assertEqual([one.read(5, "boot"), other.read(5, "boot"), one.count(), other.count()], [5, 5, 1, 5])
        self.assertIs(alike_from_now(one, other), False)

    def test_the_clock_of_a_process_alone(self):
        pair = []
        for mult in (3, 2):
            kernel = Kernel(16, (mult, 2), processors=2)
            kernel.process(0)
            for processor in (0, 1):
                kernel.thread(0, 0)
                kernel.run(0, processor, [processor])
            for processor in (0, 1):
                kernel.run(1, processor, [])
            # Two threads have 3 parts or 2, of which 1 is left, their process has 6 or 4, of which 3 or 2 are left.
            pair.append(kernel.moved(16, (1, 1)))
        self.assertIs(alike_from_now(*pair), False)
        for kernel in pair:
            kernel.run(1, 0, [0])
        self.assertEqual([kernel.read(2, ("process", 0)) for kernel in pair], [2, 1])

    def test_ways_to_write_levels(self):
        for one, other in ((None, ["queue"]), (["stack"], ["stack"] * 60), (["stack", "queue"], ["stack", "queue", "queue"])):
            self.assertIs(alike_from_now(Kernel(8, (3, 1), levels=one), Kernel(8, (3, 1), levels=other)), True)
        levels = ["queue"] * 59
        is_raised(self, errors.NoKernel, alike_from_now, [Kernel(8, (3, 1), levels=levels + ["stack"]), Kernel(8, (3, 1))])

    def test_itself(self):
        kernel = Kernel(8, (3, 1))
        self.assertIs(alike_from_now(kernel, kernel), True)

    def test_other_settings(self):
        base = {"width": 16, "rate": (4, 2), **NAMED}
        for word, value in (("width", 17), ("rate", (4, 3)), ("processors", 3), ("tick", 6), ("base", 4),
                            ("levels", ["queue"]), ("levels", ["stack", "queue", "stack"]), ("coarse", 1)):
            one, other = Kernel(**base), Kernel(**{**base, word: value})
            is_raised(self, errors.NoKernel, alike_from_now, [one, other])
            is_raised(self, errors.NoKernel, alike_from_now, [other, one])
            # What is no kernel goes ahead of the cycle.
            other.look(5)
            is_raised(self, errors.NoKernel, alike_from_now, [one, other])

    def test_wrong(self):
        kernel, later, stopped = Kernel(8, (3, 1)), Kernel(8, (3, 1)), Kernel(8, (3, 1))
        later.look(1)
        stopped.stop(2, 2)
        for function in (alike_from_now, first_unlike):
            for thing in NOT_KERNELS:
                for pair in ([thing, kernel], [kernel, thing], [thing, thing], [thing, later], [stopped, thing]):
                    is_raised(self, errors.NoKernel, function, pair)
            for pair in ([kernel, later], [later, kernel], [stopped, kernel], [later, stopped]):
                is_raised(self, errors.NoCycle, function, pair)
        # The count does not matter here, and wraps do.
        later.look(256)
        kernel.look(256)
        self.assertIs(alike_from_now(kernel, later), False)

    def test_the_interface(self):
        for function in (alike_from_now, first_unlike):
            self.assertEqual(str(inspect.signature(function)), "(one, other)")
            self.assertEqual(function.__module__, "timekernel.compare")
        self.assertIs(alike_from_now(other=Kernel(8, (3, 1)), one=Kernel(8, (3, 1))), True)
        self.assertIsNone(first_unlike(other=Kernel(8, (3, 1)), one=Kernel(8, (3, 1))))


def altered(dice, call):
    """A call that is a little different from another one."""
    name, rest, more = call[0], list(call[1]), dict(call[2])
    if name in ("go", "stop"):
        return call
    if dice.random() < 0.4:
        return "look", rest[:1], {}
    word = dice.choice(["slack", "slack", "period", "fragile", "due"])
    if name == "put" and word != "due":
        more[word] = {"slack": dice.randint(0, 9), "period": dice.choice([None, 1, 2, 5]),
                      "fragile": not more.get("fragile", False)}[word]
        return name, rest, more
    if name == "run" and dice.random() < 0.5:
        more["quantum"] = dice.choice([None, 1, 2, 3, 5])
        return name, rest, more
    if name == "sleep" and dice.random() < 0.5:
        return "leave", rest[:2], {}
    place = dice.randrange(1, len(rest)) if len(rest) > 1 else 0
    if place and isinstance(rest[place], int):
        rest[place] += dice.choice([-1, 1])
    elif place and isinstance(rest[place], list):
        rest[place] = rest[place][::-1]
    return name, rest, more


def near_kernels(dice):
    """Two kernels with nearly the same log, at the same cycle."""
    one = random_kernel(dice)
    other = one.twin()
    longest = dice.choice([1, 3, 9, 30])
    many = dice.choice([4, 20, 40])
    places = dice.sample(range(many), dice.choice([1, 1, 2, 3]))
    for number in range(many):
        call = a_call(dice, View(dice.choice([one, other])), longest)
        made(one, call)
        made(other, altered(dice, call) if number in places else call)
    at = max(one.last(), other.last())
    for kernel in (one, other):
        if kernel.last() < at:
            if kernel.state.halted is not None:
                kernel.go(kernel.state.halted)
            kernel.look(at)
    return one, other


class Search(unittest.TestCase):
    def test_rows_tell_kernels_apart_that_are_not_alike_and_no_others(self):
        told = {"alike": 0, "apart": 0, "not found": 0}
        for seed in range(200):
            dice = random.Random(23000 + seed)
            one, other = near_kernels(dice)
            alike = alike_from_now(one, other)
            self.assertIs(alike_from_now(other, one), alike)
            row = row_apart(dice, one, other, 6 if alike else 80)
            if alike:
                self.assertIsNone(row, seed)
            told["alike" if alike else "not found" if row is None else "apart"] += 1
        self.assertGreater(told["alike"], 50)
        self.assertGreater(told["apart"], 50)
        # Some differences take more luck to be seen.
        self.assertLessEqual(told["not found"], 3, told)

    def test_twins_and_replayed_kernels(self):
        for seed in range(60):
            dice = random.Random(24000 + seed)
            kernel = random_log_kernel(dice)
            other, _ = replayed(kernel, kernel.log())
            for two in (kernel.twin(), other):
                self.assertIs(alike_from_now(kernel, two), True)
                self.assertIsNone(row_apart(dice, kernel, two, 2), seed)

    def test_later_calls_on_a_twin(self):
        for seed in range(60):
            dice = random.Random(25000 + seed)
            kernel = random_log_kernel(dice, 20)
            twin, other = kernel.twin(), kernel.twin()
            random_calls(dice, twin, 20, 9)
            self.assertIs(alike_from_now(kernel, other), True)
            self.assertEqual([kernel.log(), twin.log()[:len(kernel.log())]], [other.log(), other.log()])


class Moved(unittest.TestCase):
    def test_the_same_counter(self):
        for seed in range(80):
            dice = random.Random(26000 + seed)
            kernel = random_log_kernel(dice)
            if kernel.state.halted is not None or kernel.slew_left():
                continue
            settings, mult = kernel.state.settings, kernel.state.course().mult
            moved = kernel.moved(settings.width, (mult, settings.rate[1]))
            self.assertIs(alike_from_now(kernel, moved), True)
            self.assertIsNone(row_apart(dice, kernel, moved, 2), seed)

    def test_width_and_shift_of_a_moved_kernel(self):
        kernel = Kernel(8, (3, 1))
        moved = kernel.moved(9, (5, 2))
        is_raised(self, errors.NoKernel, alike_from_now, [kernel, moved])
        is_raised(self, errors.NoKernel, alike_from_now, [kernel, kernel.moved(8, (3, 2))])
        self.assertIs(alike_from_now(moved, Kernel(9, (5, 2))), True)
        self.assertIs(alike_from_now(moved, Kernel(9, (6, 2))), False)
        self.assertIs(alike_from_now(moved.twin(), moved.moved(9, (5, 2))), True)
        # Parts that a smaller shift drops are lost.
        kernel.look(1)
        self.assertIs(alike_from_now(kernel, kernel.moved(8, (7, 0)).moved(8, (3, 1))), False)
        self.assertIs(alike_from_now(kernel, kernel.moved(8, (7, 9)).moved(8, (3, 1))), True)

    def test_there_and_back_with_more_parts(self):
        for seed in range(60):
            dice = random.Random(27000 + seed)
            kernel = random_log_kernel(dice)
            if kernel.state.halted is not None or kernel.slew_left():
                continue
            shift, mult = kernel.state.settings.rate[1], kernel.state.course().mult
            there = kernel.moved(dice.randint(1, 64), (dice.randint(1, 99), shift + dice.randint(0, 60)))
            back = there.moved(kernel.state.settings.width, (mult, shift))
            self.assertIs(alike_from_now(kernel, back), True)
            self.assertIsNone(row_apart(dice, kernel, back, 2), seed)


def first_unlike_by_reads(one, other, many):
    """The same, cycle by cycle."""
    for at in range(one.last(), one.last() + many):
        for clock in ("steady", "real", "boot"):
            if one.read(at, clock) != other.read(at, clock):
                return (at, clock)
    return None


class FirstUnlike(unittest.TestCase):
    def test_example(self):
        self.assertEqual(first_unlike(Kernel(32, (3, 1)), Kernel(32, (7, 2))), (3, "steady"))

    def test_at_once(self):
        one, other = Kernel(32, (3, 1)), Kernel(8, (9, 3), tick=7)
        one.look(2)
        other.look(2)
        self.assertEqual(first_unlike(one, other), (2, "steady"))
        one, other = Kernel(32, (3, 1)), Kernel(32, (3, 1))
        one.set_real(2, 4)
        other.set_real(2, 5)
        self.assertEqual(first_unlike(one, other), (2, "real"))
        one.stop(2, 0)
        one.go(3)
        other.stop(2, 0)
        other.go(2)
        # The real clocks read 7 and 7, the boot clocks 6 and 5.
        self.assertEqual(first_unlike(one, other), (2, "boot"))

    def test_none(self):
        self.assertIsNone(first_unlike(Kernel(8, (3, 1)), Kernel(64, (12, 3), processors=4, coarse=7)))
        one, other = Kernel(8, (3, 1)), Kernel(8, (6, 2))
        one.slew(0, 5, 1)
        other.slew(0, 5, 2)
        self.assertIsNone(first_unlike(one, other))

    def test_what_was_missed_stays(self):
        one, other = Kernel(8, (3, 1)), Kernel(9, (3, 1))
        one.look(300)
        other.look(300)
        self.assertEqual(first_unlike(one, other), (300, "steady"))
        one.set_rate(300, 1)
        self.assertEqual(first_unlike(one, other), (300, "steady"))
        twin = one.twin()
        twin.set_rate(300, 2)
        # 66 and 0 parts; one part more for each count is half a unit.
        self.assertEqual(first_unlike(one, twin), (301, "steady"))

    def test_the_ends_of_slews(self):
        one, other = Kernel(64, (8, 3)), Kernel(64, (8, 3))
        one.slew(0, 10 ** 18, 1)
        other.slew(0, 10 ** 18, 1)
        one.look(8)
        other.look(8)
        self.assertIsNone(first_unlike(one, other))
        other.slew(8, 10 ** 18, 1)
        # A unit was gained before; the slews end at 8 * 10 ** 18 and 8 counts later.
        self.assertEqual(first_unlike(one, other), (8 * 10 ** 18 + 8, "real"))
        one.slew(8, -1, 1)
        self.assertEqual(first_unlike(one, other), (9, "real"))

    def test_slews_of_one_end_and_different_steps(self):
        one, other = Kernel(64, (10 ** 9, 0)), Kernel(64, (10 ** 9, 0))
        one.slew(0, 6, 3)
        other.slew(0, 6, 6)
        self.assertEqual(first_unlike(one, other), (1, "real"))
        one.look(2)
        other.look(2)
        self.assertIsNone(first_unlike(one, other))
        # A rest that is less than a step.
        one.slew(2, 7, 3)
        other.slew(2, 6, 3)
        self.assertEqual(first_unlike(one, other), (5, "real"))
        one.slew(2, -7, 3)
        other.slew(2, -6, 3)
        self.assertEqual(first_unlike(one, other), (5, "real"))

    def test_slews_that_are_over_ahead_of_what_could_be_seen(self):
        one, other = Kernel(64, (4, 4)), Kernel(64, (4, 4))
        one.slew(0, 1, 1)
        other.slew(7, 1, 2)
        for kernel in (one, other):
            kernel.look(14)
        # Both have gained 14 parts and gain 2 more, one of them in two counts: 75 and 76 parts, then 80.
        self.assertEqual([one.slew_left(), other.slew_left(), one.read(14, "real"), other.read(14, "real")], [2, 2, 4, 4])
        self.assertIsNone(first_unlike(one, other))
        self.assertIs(alike_from_now(one, other), False)

    def test_the_last_part_of_a_slew(self):
        one, other = Kernel(64, (8, 0)), Kernel(64, (8, 0))
        one.slew(0, 2, 1)
        other.set_real(1, 9)
        one.look(1)
        self.assertEqual([one.slew_left(), first_unlike(one, other), first_unlike(other, one)],
                         [1, (2, "real"), (2, "real")])
        other.set_real(1, 8)
        other.slew(1, 2, 2)
        # 17 or 18 parts at count 2.
        one.look(2)
        other.look(2)
        self.assertEqual(first_unlike(one, other), None)

    def test_far(self):
        # Half a unit for each count, and a part more: at odd counts half a unit is missing to the next one.
        one, other = Kernel(64, (2 ** 63, 64)), Kernel(64, (2 ** 63 + 1, 64))
        self.assertEqual(first_unlike(one, other), (2 ** 63 + 1, "steady"))
        one, other = Kernel(64, (2, 0)), Kernel(64, (2, 0))
        one.slew(0, FAR, 1)
        other.slew(0, FAR + 1, 1)
        self.assertEqual(first_unlike(one, other), (FAR + 1, "real"))
        one.slew(0, -FAR - 1, 1)
        other.slew(0, -FAR, 1)
        self.assertEqual(first_unlike(one, other), (FAR + 1, "real"))

    def test_stopped(self):
        one, other = Kernel(8, (3, 1)), Kernel(8, (3, 1))
        one.stop(4, 0)
        is_raised(self, errors.NoCycle, first_unlike, [one, other])
        other.look(4)
        for pair in ([one, other], [other, one], [one, one], [one, one.twin()]):
            is_raised(self, errors.Stopped, first_unlike, pair)
        one.go(0)
        self.assertIsNone(first_unlike(one, other))

    def test_against_reads(self):
        told = set()
        for seed in range(500):
            dice = random.Random(24 * seed)
            pair = [Kernel(dice.choice([10, 64]), (dice.randint(1, 9), dice.randint(0, 3)), coarse=dice.randint(1, 3))
                    for _ in range(2)]
            if dice.random() < 0.6:
                pair[1] = pair[0].twin()
            at = 0
            for _ in range(dice.randint(0, 5)):
                at += dice.choice([0, 0, 1, 3, 20])
                clock_calls(dice, at, [kernel for kernel in pair if dice.random() < 0.9])
            for kernel in pair:
                kernel.look(at)
            found = first_unlike(*pair)
            seen = first_unlike_by_reads(pair[0].twin(), pair[1].twin(), 120)
            self.assertEqual(found if found is None or found[0] < at + 120 else None, seen, seed)
            told.add(seen and (seen[1], seen[0] > at))
        self.assertEqual(told, {None, ("steady", False), ("steady", True), ("real", False), ("real", True), ("boot", False)})


    def test_slews_against_reads(self):
        """Slews of different steps, whose rests are short."""
        told = set()
        for seed in range(1500):
            dice = random.Random(29000 + seed)
            rate = (dice.randint(4, 12), dice.randint(2, 4))
            pair = [Kernel(64, rate), Kernel(64, rate)]
            amount, at = dice.choice([-2, -1, 1, 2]), dice.randint(8, 30)
            for kernel in pair:
                kernel.slew(dice.randint(0, at), amount, dice.randint(1, 3))
            for kernel in pair:
                kernel.look(at)
            seen = first_unlike_by_reads(pair[0].twin(), pair[1].twin(), 80)
            self.assertEqual(first_unlike(*pair), seen, seed)
            told.add(seen and seen[0] - at)
        self.assertLessEqual({None, 0, 1, 2, 3, 5, 8}, told)


def clock_calls(dice, at, kernels):
    """A random call that changes clocks, the same on some kernels."""
    call = dice.choice(["set_rate", "set_real", "slew", "slew", "stop"])
    rest = {"set_rate": [dice.randint(1, 9)], "set_real": [dice.choice([0, at, 9])], "stop": [3],
            "slew": [dice.choice([1, -1, 5, -7, 30]), dice.randint(1, 8)]}[call]
    more = dice.choice([0, 0, 1])
    for kernel in kernels:
        made(kernel, (call, [at, *rest], {}))
        if call == "stop":
            kernel.go(3 + more)
