"""Points 9 to 22, 25 and 26 on random rows of calls: against a slow model, with more looks, and far away."""

import random
import unittest

from tests.model import HORIZON, Slow
from tests.rows import a_call, a_row, beginning, both, outcome, settings
from timekernel.kernel import Kernel

# So many counts of the kernel are one of the slow model: as far as calls reach, and as far as forecasts do.
FAR = 10 ** 15
FARTHER = 10 ** 48
SCALED = {"set_real": 1, "put": 2, "limit": 2, "slack": 1, "period": 1, "quantum": 1}


class AgainstTheModel(unittest.TestCase):
    def test_small_counts(self):
        for seed in range(120):
            a_row(self, seed, 60)

    def test_far_counts(self):
        for seed in range(40):
            a_row(self, 9000 + seed, 50, 10 ** 18 + 7 * seed)


class MoreLooks(unittest.TestCase):
    def test_looks_change_nothing(self):
        """Point 1: whatever looks are made, all is the same as long as no two are a whole wrap apart."""
        for seed in range(60):
            dice = random.Random(5000 + seed)
            (_, rate), named = settings(dice)
            kernel, other, slow = Kernel(8, rate, **named), Kernel(8, rate, **named), Slow(8, rate, **named)
            begun = beginning(dice, slow)
            for k in range(45):
                name, rest, more = begun[k] if k < len(begun) else a_call(dice, slow, 255)
                fast = both(self, kernel, slow, name, rest, more, seed)
                if fast[0] == "returns" and name != "go":
                    for _ in range(dice.choice([0, 1, 3])):
                        other.look(dice.randint(other.last(), rest[0]))
                self.assertEqual(outcome(getattr(other, name), *rest, **more), fast, (seed, name, rest, more))
            self.assertEqual([row for row in other.log() if row[0] != "look"],
                             [row for row in kernel.log() if row[0] != "look"])
            for clock in slow.values:
                readings = [[one.reading_at(clock, count) for count in range(slow.c + 1)] for one in (kernel, other)]
                self.assertEqual(*readings)

    def test_whole_wraps_are_lost_and_nothing_else(self):
        for seed in range(60):
            dice = random.Random(6000 + seed)
            (width, rate), named = settings(dice)
            kernel, slow = Kernel(width, rate, **named), Slow(64, rate, **named)
            lost = 0
            begun = beginning(dice, slow)
            for k in range(45):
                name, rest, more = begun[k] if k < len(begun) else a_call(dice, slow, 2 ** width - 1)
                moved = rest
                if name != "go" and rest[0] is not None and rest[0] is not True:
                    lost += dice.choice([0, 0, 1, 5, 10 ** 40]) * 2 ** width if rest[0] >= slow.at else 0
                    moved = [rest[0] + lost] + rest[1:]
                before = kernel.last()
                fast = outcome(getattr(kernel, name), *moved, **more)
                self.assertEqual(fast, outcome(slow.call, name, *rest, **more))
                if kernel.last() == before:
                    # A call that raises an error is no look.
                    lost = kernel.missed()
                self.assertEqual((kernel.missed(), kernel.count()), (lost, slow.c))


def times(part, scale):
    return part * scale if isinstance(part, int) and not isinstance(part, bool) else part


def scaled(name, rest, more, scale):
    """The same call where so many counts are one."""
    places = set() if name == "go" else {0, SCALED.get(name, 0)}
    return ([times(part, scale) if place in places else part for place, part in enumerate(rest)],
            {word: times(more[word], scale) if word in SCALED else more[word] for word in more})


def scaled_answer(name, answer, scale):
    if answer[0] == "returns" and name == "read":
        return ("returns", answer[1] * scale)
    if answer[0] == "returns" and name == "take":
        return ("returns", [(count * scale, timer, many) for count, timer, many in answer[1]])
    return answer


def tamed(slow, name, rest):
    """A process has all its threads on one processor: otherwise its clock may jump over half a count."""
    def owner(thread):
        known = isinstance(thread, int) and not isinstance(thread, bool) and 0 <= thread < len(slow.owner)
        return slow.owner[thread] % slow.processors if known else None
    if name == "run" and isinstance(rest[2], list):
        rest = [*rest[:2], [thread for thread in rest[2] if owner(thread) in (None, rest[1])]]
    if name == "join" and owner(rest[2]) is not None:
        rest = [rest[0], owner(rest[2]), rest[2]]
    return rest


class Scaled(unittest.TestCase):
    def made(self, dice, scale):
        """A kernel and a slow model of whose counts each is as many counts of the kernel."""
        _, named = settings(dice)
        slow = Slow(64, (1, 0), **named)
        named.update(tick=named["tick"] * scale, coarse=named["coarse"] * scale)
        return Kernel(64, (1, 0), **named), slow

    def begin(self, dice, kernel, slow):
        for name, rest, more in beginning(dice, slow):
            both(self, kernel, slow, name, rest, more, "begin")

    def call(self, dice, kernel, slow, scale, longest):
        name, rest, more = a_call(dice, slow, longest)
        if name in ("set_rate", "slew"):
            return
        if longest == 0 and name != "go":
            rest[0] = 0
        rest = tamed(slow, name, rest)
        given, words = scaled(name, rest, more, scale)
        answer = outcome(slow.call, name, *rest, **more)
        self.assertEqual(outcome(getattr(kernel, name), *given, **words), scaled_answer(name, answer, scale),
                         (name, rest, more))

    def compare(self, dice, kernel, slow, scale):
        for clock in slow.values:
            count = dice.randint(0, slow.c)
            self.assertEqual(kernel.reading_at(clock, count * scale), slow.reading_at(clock, count) * scale)
            if slow.halted is not None:
                continue
            reading = slow.value_reading(clock) + dice.randint(0, 60)
            cycle, far = slow.when(clock, reading), kernel.when(clock, reading * scale)
            self.assertEqual(None if far is None or far >= (slow.at + HORIZON) * scale else far, times(cycle, scale))
        if slow.halted is None:
            ticks = [timer for timer in slow.live if slow.live[timer].clock is None]
            end = (slow.at + HORIZON) * scale
            far = [(first, None if last is None or last >= end else last, timer)
                   for first, last, timer in kernel.windows() if timer not in ticks and first < end]
            self.assertEqual(far, [(first * scale, times(last, scale), timer)
                                   for first, last, timer in slow.windows() if timer not in ticks])

    def test_far_calls(self):
        for seed in range(60):
            dice = random.Random(7000 + seed)
            kernel, slow = self.made(dice, FAR)
            self.begin(dice, kernel, slow)
            for _ in range(50):
                self.call(dice, kernel, slow, FAR, 40)
                if dice.random() < 0.1:
                    self.compare(dice, kernel, slow, FAR)

    def test_farther_forecasts(self):
        for seed in range(60):
            dice = random.Random(8000 + seed)
            kernel, slow = self.made(dice, FARTHER)
            self.begin(dice, kernel, slow)
            for _ in range(45):
                self.call(dice, kernel, slow, FARTHER, 0)
            self.compare(dice, kernel, slow, FARTHER)
