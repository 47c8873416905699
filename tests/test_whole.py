"""Points 1, 2 and 9 to 29 over the whole program: looks change nothing, and whole wraps are all that is lost."""

import ast
import inspect
import pathlib
import random
import unittest

from tests.rows import a_call, beginning, settings
from tests.search import View, made, random_calls
from tests.support import called
from timekernel.compare import alike_from_now, first_unlike
from timekernel.kernel import Kernel
from timekernel.logs import read_log, replayed, shortest, show_log, with_looks

FAR = 10 ** 18
FARTHER = 10 ** 50
WRAP = 2 ** 64


def later_log(dice, log):
    """The log with whole wraps of 64 bits ahead of some rows, and how many cycles these are."""
    lost, rows = 0, []
    for row in log:
        if row[0] != "go":
            lost += dice.choice([0, 0, 0, 1, 3, 10 ** 30]) * WRAP
            row = (row[0], row[1] + lost, *row[2:])
        rows.append(row)
    return rows, lost


def far_kernel(dice, longest):
    """A kernel with a random log far away from cycle 0."""
    _, named = settings(dice)
    rate = (dice.randrange(2 ** 39, 2 ** 43), 40)
    kernel = Kernel(64, rate, **named)
    kernel.look(FAR)
    for call in beginning(dice, View(kernel)):
        made(kernel, call)
    random_calls(dice, kernel, 30, longest)
    return kernel


def seen(kernel):
    """What the methods tell that are no calls, of a kernel that goes on."""
    counts = sorted({0, kernel.count(), *[kernel.count() * k // 40 for k in range(40)]})
    clocks = View(kernel).values
    reading = kernel.reading_at("real", kernel.count())
    told = [[kernel.reading_at(clock, count) for count in counts] for clock in clocks]
    told.append([kernel.runs(clock, reading - k) for clock in ("steady", "real", "boot") for k in range(5)])
    told.append([kernel.when(clock, kernel.reading_at(clock, kernel.count()) + 9) for clock in clocks])
    return told + [kernel.windows(), kernel.plan(kernel.last() + 7), kernel.timers(), kernel.slew_left(),
                   [kernel.due(timer) for timer in kernel.timers()]]


class Looks(unittest.TestCase):
    def test_looks_change_nothing(self):
        for seed in range(120):
            dice = random.Random(40000 + seed)
            kernel = far_kernel(dice, dice.choice([3, 40, 10 ** 15]))
            log = kernel.log()
            looks = sorted(dice.choice([dice.randint(0, kernel.last()), dice.randint(FAR, kernel.last())])
                           for _ in range(40))
            other, _ = replayed(kernel, with_looks(log, looks))
            self.assertIs(alike_from_now(kernel, other), True)
            self.assertEqual([row for row in other.log() if row[0] != "look"], [row for row in log if row[0] != "look"])
            if kernel.state.halted is None:
                self.assertEqual(seen(other), seen(kernel))
                self.assertIsNone(first_unlike(kernel, other))

    def test_a_log_with_looks_is_as_short_as_one_without(self):
        for seed in range(120):
            dice = random.Random(41000 + seed)
            kernel = far_kernel(dice, 10 ** 15)
            looks = sorted(dice.randint(0, kernel.last()) for _ in range(30))
            log = kernel.log()
            found = shortest(64, with_looks(log, looks))
            self.assertEqual(found, shortest(64, log))
            self.assertIs(alike_from_now(kernel, replayed(kernel, read_log(show_log(found)))[0]), True)

    def test_whole_wraps_are_lost_for_ever_and_nothing_else(self):
        for seed in range(120):
            dice = random.Random(42000 + seed)
            kernel = far_kernel(dice, dice.choice([3, 40, 10 ** 15]))
            log = kernel.log()
            later, lost = called(self, lambda rows: later_log(dice, rows), log)
            other, answers = replayed(kernel, later)
            self.assertEqual(answers, replayed(kernel, log)[1])
            self.assertEqual([other.count(), other.missed(), other.last()], [kernel.count(), lost, kernel.last() + lost])
            # The kernel that loses them all at its last call is like the one that lost them on the way.
            if kernel.state.halted is None:
                kernel.look(kernel.last() + lost)
                self.assertIs(alike_from_now(kernel, other), True)
                self.assertEqual(seen(other), seen(kernel))
                random_calls(dice, other, 20, 9)
                for row in other.log()[len(later):]:
                    made(kernel, written(row))
                self.assertIs(alike_from_now(kernel, other), True)

    def test_a_narrow_counter_with_enough_looks(self):
        """A kernel that looks when its plan says so is like one with a counter that never wraps."""
        for seed in range(60):
            dice = random.Random(43000 + seed)
            (_, rate), named = settings(dice)
            wide, narrow = Kernel(64, rate, **named), Kernel(dice.randint(2, 7), rate, **named)
            for call in beginning(dice, View(wide)):
                made(wide, call)
            random_calls(dice, wide, 30, 40)
            log = [row for row in wide.log() if row[0] != "look"]
            rows = with_looks(log, planned_looks(narrow.twin(), log))
            found, answers = replayed(narrow, rows)
            self.assertEqual(found.missed(), 0)
            self.assertEqual([answer for answer, row in zip(answers, rows) if row[0] != "look"], replayed(wide, log)[1])

    def test_a_plan_makes_no_more_looks_than_needed(self):
        """No shorter list of looks keeps a kernel without calls from missing a wrap."""
        for width in (1, 2, 3, 5):
            for until in range(60):
                kernel = Kernel(width, (1, 0))
                plan = kernel.plan(until)
                log = with_looks([("take", until)], plan)
                self.assertEqual(replayed(kernel, log)[0].missed(), 0)
                self.assertEqual(len(shortest(width, log)), len(plan) + 1)


def written(row):
    """A row of a log as a call with the arguments by keyword where they must be."""
    name, rest = row[0], list(row[1:])
    words = {"put": ["slack", "period", "fragile"], "run": ["quantum"]}.get(name, [])
    many = len(rest) - len(words)
    return name, rest[:many], dict(zip(words, rest[many:]))


def planned_looks(kernel, log):
    """The looks that a kernel plans of its own between the calls of a log, of which it knows only those so far."""
    looks = []
    for row in log:
        planned = kernel.plan(row[1]) if row[0] != "go" else []
        for look in planned:
            kernel.look(look)
        looks += planned
        made(kernel, written(row))
    return looks


class Interface(unittest.TestCase):
    LISTED = {
        "errors": "KernelError NoFragile NoWidth NoLooks NoCycle NoRate NoReading NoLine NoProcessor NoTick NoLevels "
                  "NoClock NoSlew Stopped NotStopped NoSlack NoPeriod NoTimer NoWindow NoSpan NoProcess NoThread NoQuantum "
                  "NoKernel NoCall TooMany NoRow",
        "counters": "shown(width,looks) counted(width,looks) lost(width,looks) least_history(width,values) "
                    "histories_many(width,values,last)",
        "rates": "rate_reading(rate,cycles) first_cycle(rate,reading) best_rate(frequency,units,most) "
                 "longest_span(width,rate) rates_seen(shift,seen)",
        "lines": "line_reading(line,cycle) first_reach(line,reading) shows_run(line,reading) first_apart(one,other) "
                 "first_ahead(one,other) apart_many(one,other,last)",
        "kernel": "Kernel",
        "windows": "fewest(span,windows,begin,until) is_enough(span,windows,begin,until,looks) "
                   "needed(span,windows,begin,until,looks) is_certificate(span,windows,begin,until,stretches)",
        "samples": "never_sampled(rate,tick,quantum,many)",
        "compare": "alike_from_now(one,other) first_unlike(one,other)",
        "logs": "replayed(kernel,log) with_looks(log,looks) shortest(width,log) show_log(log) read_log(text)",
    }

    def test_each_name_is_defined_in_its_file(self):
        for module, listed in self.LISTED.items():
            path = pathlib.Path(inspect.getfile(Kernel)).parent / (module + ".py")
            found = {node.name: node for node in ast.parse(path.read_text(encoding="ascii")).body if hasattr(node, "name")}
            for text in listed.split():
                name, _, words = text.partition("(")
                self.assertIn(name, found)
                if words:
                    node = found[name].args
                    self.assertEqual([[], [], [], None, None], [
                        node.posonlyargs, node.kwonlyargs, node.defaults, node.vararg, node.kwarg])
                    self.assertEqual(",".join(word.arg for word in node.args) + ")", words, name)


class Many(unittest.TestCase):
    def test_1500_calls_with_a_hundred_timers_and_threads(self):
        dice = random.Random(44)
        kernel = Kernel(64, (3 * 2 ** 30 + 1, 30), processors=8, tick=7, base=3, levels=["stack", "queue"])
        rows = [("process", [0], {})] * 10 + [("thread", [0, number % 10], {}) for number in range(100)]
        rows += [("run", [0, number, list(range(number * 12, number * 12 + 12))], {"quantum": 5 + number})
                 for number in range(8)]
        for row in rows:
            made(kernel, row)
        while len(kernel.log()) < 1500:
            name, rest, more = a_call(dice, View(kernel), dice.choice([1, 10 ** 6, 10 ** 15]))
            if name in ("thread", "process", "limit") or name in ("put", "put_tick") and len(kernel.timers()) > 99:
                continue
            made(kernel, (name, rest, more))
        self.assertEqual(kernel.missed(), 0)
        log = kernel.log()
        looks = sorted(dice.randrange(kernel.last()) for _ in range(200))
        other, _ = replayed(kernel, with_looks(log, looks))
        self.assertIs(alike_from_now(kernel, other), True)
        self.assertEqual(read_log(show_log(log)), log)
        self.assertIs(alike_from_now(kernel, kernel.twin()), True)

    def test_far_logs(self):
        kernel = Kernel(64, (1, 0))
        log = [("look", FARTHER), ("put", FARTHER + 1, "steady", FARTHER, 0, None, False), ("take", FARTHER * 3)]
        other, answers = replayed(kernel, log)
        self.assertEqual([answers, other.missed()], [[None, 0, []], FARTHER * 3 - other.count()])
        count = FARTHER % WRAP + 1 + (2 * FARTHER - 1) % WRAP
        self.assertEqual(other.count(), count)
        self.assertEqual([first_unlike(kernel, kernel.twin()), other.when("steady", FARTHER * 2)],
                         [None, FARTHER * 5 - count])
        self.assertEqual(replayed(kernel, shortest(64, log))[0].count(), count)
