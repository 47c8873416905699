"""Points 25 and 26: twins, moved kernels and logs."""

import random
import unittest

from tests.model import Slow
from tests.rows import a_call, beginning, both, outcome, settings
from tests.support import is_raised
from timekernel import errors
from timekernel.kernel import Kernel


class Twins(unittest.TestCase):
    def test_later_calls_do_not_change_the_other(self):
        for seed in range(40):
            dice = random.Random(4000 + seed)
            positional, named = settings(dice)
            kernel, slow = Kernel(*positional, **named), Slow(*positional, **named)
            for call in beginning(dice, slow):
                both(self, kernel, slow, *call, seed)
            for _ in range(25):
                both(self, kernel, slow, *a_call(dice, slow, 9), seed)
            twin, other = kernel.twin(), slow.twin()
            self.assertIs(type(twin), Kernel)
            for _ in range(40):
                if dice.random() < 0.5:
                    both(self, kernel, slow, *a_call(dice, slow, 9), seed)
                else:
                    both(self, twin, other, *a_call(dice, other, 9), seed)
            for one, model in ((kernel, slow), (twin, other)):
                self.assertEqual(one.log(), model.log())
                for clock in model.values:
                    self.assertEqual([one.reading_at(clock, count) for count in range(model.c + 1)],
                                     [model.reading_at(clock, count) for count in range(model.c + 1)])

    def test_a_stopped_twin(self):
        kernel = Kernel(32, (3, 1))
        kernel.stop(5, 2)
        twin = kernel.twin()
        kernel.go(9)
        is_raised(self, errors.Stopped, twin.look, [5])
        twin.go(2)
        self.assertEqual([kernel.read(5, "boot"), twin.read(5, "boot")], [14, 7])


class Moved(unittest.TestCase):
    def test_readings_stay(self):
        kernel = Kernel(4, (7, 2))
        kernel.set_real(20, -9)
        kernel.put(21, "steady", 10, period=3)
        kernel.put(21, "real", -3, slack=4)
        moved = kernel.moved(6, (3, 0))
        self.assertEqual([moved.count(), moved.missed(), moved.last(), moved.log()], [5, 16, 21, []])
        self.assertEqual([moved.read(21, clock) for clock in ("steady", "real", "boot")],
                         [kernel.read(21, clock) for clock in ("steady", "real", "boot")])
        # Values are rounded down to the parts of the new rate.
        self.assertEqual([moved.read(22, "steady"), moved.read(22, "real")], [8 + 3, -8 + 3])
        self.assertEqual(moved.take(24), [(7 - 1, 0, 3), (7, 1, 1)])
        self.assertEqual(moved.due(0), 19)
        self.assertEqual([moved.look(24 + 63), moved.missed(), moved.look(24 + 63 + 64), moved.missed()], [None, 16, None, 80])
        self.assertEqual([kernel.last(), kernel.read(22, "steady")], [21, 10])

    def test_the_history_begins_anew(self):
        kernel = Kernel(32, (1, 2))
        kernel.set_real(9, 2)
        moved = kernel.moved(32, (1, 1))
        moved.look(12)
        is_raised(self, errors.NoCycle, moved.reading_at, ["steady", 8])
        self.assertEqual([moved.reading_at("steady", count) for count in range(9, 13)], [2, 2, 3, 3])
        self.assertEqual([moved.runs("real", 2), moved.runs("steady", 2), moved.runs("steady", 1)], [[(9, 10)], [(9, 10)], []])
        again = moved.moved(32, (1, 1))
        is_raised(self, errors.NoCycle, again.reading_at, ["steady", 11])

    def test_expirations_and_samples_go_on(self):
        kernel = Kernel(32, (1, 2), tick=3)
        kernel.process(0)
        kernel.thread(0, 0)
        kernel.run(0, 0, [0], quantum=5)
        kernel.put(0, "steady", 2, period=2)
        kernel.put(0, "steady", 90)
        kernel.limit(0, 0, 10)
        # At count 24 tick 2 begins; it is a sample of the count behind.
        moved = kernel.twin()
        moved.look(24)
        self.assertEqual(moved.sampled(24, 0), 1)
        moved = moved.moved(32, (8, 5))
        self.assertEqual([moved.sampled(24, 0), moved.sampled(25, 0), moved.expired(25, 0)], [1, 2, 3])
        self.assertEqual([moved.take(25), moved.timers()], [[(8, 0, 3)], [0, 1]])
        self.assertEqual([moved.read(99, ("process", 0)), kernel.read(99, ("process", 0))], [10, 10])
        self.assertEqual([moved.sampled(99, 0), kernel.sampled(99, 0)], [3, 3])

    def test_each_value_is_turned_by_itself(self):
        kernel = Kernel(32, (3, 2))
        kernel.process(0)
        for thread in (0, 1):
            kernel.thread(0, 0)
            kernel.run(thread, 0, [thread])
        kernel.run(2, 0, [])
        # Two threads have 3 parts of 4, their process has 6 parts.
        moved = kernel.moved(32, (1, 1))
        moved.run(2, 0, [1])
        clocks = [("thread", 0), ("thread", 1), ("process", 0)]
        self.assertEqual([moved.when(clock, 2) for clock in clocks], [None, 5, 3])
        self.assertEqual([moved.read(3, clock) for clock in clocks], [0, 1, 2])

    def test_slews(self):
        kernel = Kernel(32, (4, 0))
        kernel.slew(0, 5, 3)
        is_raised(self, errors.NoSlew, kernel.moved, [32, (1, 0)])
        kernel.look(1)
        is_raised(self, errors.NoSlew, kernel.moved, [32, (1, 0)])
        kernel.look(2)
        self.assertEqual(kernel.moved(32, (1, 0)).slew_left(), 0)


class Logs(unittest.TestCase):
    def test_all_calls(self):
        kernel = Kernel(32, (4, 0), processors=2)
        rows = [
            ("look", 0), ("read", 0, "real"), ("set_rate", 0, 5), ("set_real", 1, -3), ("slew", 1, 3, 1),
            ("put", 2, "real", 100, 0, None, False), ("put", 2, "boot", 90, 3, 7, False), ("drop", 2, 0),
            ("expired", 2, 0), ("take", 2), ("put_tick", 2, 0, 70), ("hand_over", 2, 0, 1), ("process", 3),
            ("thread", 3, 0), ("thread", 3, 0), ("run", 3, 0, [1, 0], None), ("run", 3, 0, [1], 4), ("join", 3, 0, 0),
            ("read", 4, ("thread", 1)), ("leave", 4, 0), ("sleep", 4, 1, 1), ("limit", 4, 0, None), ("limit", 4, 0, 9),
            ("running", 4, 0), ("waiting", 4, 1), ("sampled", 4, 1), ("stop", 5, 7), ("go", 8), ("look", 5)]
        kernel.look(0)
        kernel.read(0, clock="real")
        kernel.set_rate(0, mult=5)
        kernel.set_real(1, -3)
        kernel.slew(at=1, amount=3, step=1)
        kernel.put(2, "real", 100)
        kernel.put(2, "boot", 90, period=7, slack=3)
        for name, *rest in rows[7:]:
            if name == "run":
                kernel.run(*rest[:3], quantum=rest[3])
            else:
                getattr(kernel, name)(*rest)
            outcome(kernel.set_rate, 0, 0)
        self.assertEqual(kernel.log(), rows)

    def test_a_log_is_new(self):
        kernel = Kernel(32, (4, 0))
        kernel.run(0, 0, [])
        kernel.log()[0][3].append(1)
        kernel.log().clear()
        self.assertEqual(kernel.log(), [("run", 0, 0, [], None)])
