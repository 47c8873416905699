"""Points 9 to 12: the kernel and its clocks."""

import unittest

from tests.support import is_raised
from timekernel import errors
from timekernel.kernel import Kernel

TOP = 2 ** 64 - 1
FAR = 10 ** 50


def readings(kernel, clock, counts):
    return [kernel.reading_at(clock, count) for count in counts]


class Counting(unittest.TestCase):
    def test_examples(self):
        kernel = Kernel(8, (3, 1))
        first = kernel.read(10, "steady")
        self.assertIsNone(kernel.look(300))
        self.assertEqual([first, kernel.count(), kernel.missed(), kernel.read(300, "steady")], [15, 44, 256, 66])
        self.assertEqual(Kernel(8, (3, 1)).when("steady", 100), 67)
        kernel = Kernel(32, (1, 0))
        kernel.look(5)
        is_raised(self, errors.NoCycle, kernel.look, [4])

    def test_a_new_kernel(self):
        kernel = Kernel(8, (3, 1))
        self.assertEqual([kernel.count(), kernel.missed(), kernel.last(), kernel.slew_left(), kernel.log()],
                         [0, 0, 0, 0, []])
        self.assertEqual([kernel.timers(), kernel.windows(), kernel.plan(0), kernel.certificate(255)], [[], [], [], []])
        self.assertEqual(readings(kernel, "real", [0]), [0])

    def test_gaps_of_whole_wraps(self):
        kernel = Kernel(4, (1, 0))
        told = []
        for at in (15, 15, 31, 32, 47, 63, 64 + 16 * FAR):
            kernel.look(at)
            told.append((kernel.count(), kernel.missed(), kernel.last()))
        self.assertEqual(told, [(15, 0, 15), (15, 0, 15), (15, 16, 31), (16, 16, 32), (31, 16, 47), (31, 32, 63),
                                (32, 32 + 16 * FAR, 64 + 16 * FAR)])

    def test_a_call_that_raises_is_no_look(self):
        kernel = Kernel(4, (1, 0))
        is_raised(self, errors.NoTimer, kernel.drop, [10, 0])
        self.assertEqual([kernel.last(), kernel.count(), kernel.log()], [0, 0, []])
        # The looks are those at 0 and 17; a look at 10 would have saved the wrap.
        kernel.look(17)
        self.assertEqual([kernel.count(), kernel.missed()], [1, 16])

    def test_all_widths(self):
        for width in range(1, 65):
            kernel = Kernel(width, (1, 0))
            kernel.look(2 ** width - 1)
            self.assertEqual(kernel.missed(), 0)
            kernel.look(2 ** (width + 1) - 1)
            self.assertEqual(kernel.missed(), 2 ** width)


class Clocks(unittest.TestCase):
    def test_rates(self):
        kernel = Kernel(32, (3, 1))
        kernel.set_rate(3, 5)
        kernel.look(6)
        self.assertEqual(readings(kernel, "steady", range(7)), [0, 1, 3, 4, 7, 9, 12])
        self.assertEqual(kernel.read(6, "boot"), 12)
        self.assertEqual(kernel.read(6, "real"), 12)

    def test_edges_of_the_multiplier(self):
        kernel = Kernel(32, (3, 1))
        for mult in (0, -1, TOP + 1, True, 10 ** 50):
            is_raised(self, errors.NoRate, kernel.set_rate, [5, mult])
        kernel.set_rate(0, TOP)
        kernel.set_rate(2, 1)
        self.assertEqual([kernel.read(2, "steady"), kernel.read(4, "steady")], [TOP, TOP + 1])

    def test_the_last_count_of_a_slew(self):
        # 3 units of 4 parts by 5: 5, 5 and 2.
        kernel = Kernel(32, (8, 2))
        kernel.slew(0, 3, 5)
        self.assertEqual([kernel.look(2), kernel.slew_left(), kernel.read(3, "real"), kernel.slew_left()], [None, 2, 9, 0])
        kernel = Kernel(32, (8, 0))
        kernel.slew(1, -16, 7)
        left = []
        for at in range(1, 6):
            kernel.look(at)
            left.append(kernel.slew_left())
        self.assertEqual(left, [-16, -9, -2, 0, 0])
        self.assertEqual(readings(kernel, "real", range(6)), [0, 8, 9, 10, 16, 24])
        self.assertEqual(kernel.read(5, "steady"), 40)

    def test_a_slew_that_ends_early(self):
        kernel = Kernel(32, (8, 0))
        kernel.slew(0, 100, 1)
        kernel.set_real(2, 5)
        self.assertEqual([kernel.slew_left(), kernel.read(3, "real")], [0, 13])
        kernel.slew(3, 100, 1)
        kernel.slew(4, -2, 2)
        self.assertEqual([kernel.slew_left(), kernel.read(5, "real"), kernel.slew_left()], [-2, 28, 0])
        self.assertEqual(kernel.read(6, "real"), 36)

    def test_a_slew_and_the_rate(self):
        kernel = Kernel(32, (8, 0))
        kernel.slew(0, 100, 5)
        is_raised(self, errors.NoRate, kernel.set_rate, [1, 5])
        kernel.set_rate(1, 6)
        self.assertEqual([kernel.slew_left(), kernel.read(2, "real")], [95, 24])
        kernel.set_real(2, 0)
        kernel.set_rate(2, 1)
        is_raised(self, errors.NoSlew, kernel.slew, [2, 1, 1])
        # A slew whose last count is over is no running one.
        kernel = Kernel(32, (8, 0))
        kernel.slew(0, 10, 5)
        is_raised(self, errors.NoRate, kernel.set_rate, [1, 5])
        kernel.set_rate(2, 5)
        self.assertEqual(kernel.read(3, "real"), 31)

    def test_a_long_slew(self):
        kernel = Kernel(64, (TOP, 64))
        kernel.slew(0, -10 ** 59, TOP - 1)
        self.assertEqual(kernel.when("real", 10 ** 59), (10 ** 59 * 2 ** 64 + 10 ** 59 * 2 ** 64 - 1) // TOP + 1)
        self.assertEqual(kernel.when("real", 1), 2 ** 64)
        kernel.look(2 ** 64 - 1)
        self.assertEqual(kernel.slew_left(), -(10 ** 59 << 64) + TOP * (TOP - 1))
        self.assertEqual(kernel.read(2 ** 64 - 1, "real"), 0)
        self.assertEqual(kernel.read(2 ** 64, "real"), 1)

    def test_readings_below_zero(self):
        kernel = Kernel(32, (3, 1))
        kernel.set_real(1, -10)
        self.assertEqual([kernel.read(at, "real") for at in (1, 2, 3)], [-10, -9, -7])
        self.assertEqual([kernel.when("real", reading) for reading in (-20, -7, 0, 1)], [3, 3, 8, 9])

    def test_clocks_that_are_new(self):
        kernel = Kernel(32, (3, 1))
        clock = ("process", 0)
        is_raised(self, errors.NoClock, kernel.read, [3, clock])
        kernel.process(5)
        self.assertEqual(kernel.read(5, clock), 0)
        self.assertEqual(readings(kernel, clock, [0, 4, 5]), [0, 0, 0])


class StopAndGo(unittest.TestCase):
    def test_stop_and_go(self):
        kernel = Kernel(32, (3, 1), coarse=4)
        kernel.stop(3, 10)
        self.assertIsNone(kernel.go(12))
        self.assertEqual([kernel.last(), kernel.count(), kernel.missed()], [3, 3, 0])
        self.assertEqual([kernel.read(3, clock) for clock in ("steady", "real", "boot")], [4, 12, 12])
        self.assertEqual([kernel.read(4, clock) for clock in ("steady", "real", "boot")], [6, 14, 14])
        # The clocks at a count are those behind all that was done at it, also behind `go`.
        self.assertEqual(readings(kernel, "boot", range(5)), [0, 1, 3, 12, 14])
        self.assertEqual(kernel.log(), [("stop", 3, 10), ("go", 12)] + [
            ("read", at, clock) for at in (3, 4) for clock in ("steady", "real", "boot")])

    def test_go_on_at_once(self):
        kernel = Kernel(32, (3, 1), coarse=4)
        kernel.stop(3, 0)
        kernel.go(0)
        kernel.stop(3, 0)
        kernel.go(1)
        self.assertEqual(kernel.read(3, "boot"), 8)

    def test_go_leaves_a_slew(self):
        kernel = Kernel(32, (8, 0), coarse=100)
        kernel.slew(0, 10, 4)
        kernel.stop(1, 0)
        self.assertEqual(kernel.slew_left(), 6)
        kernel.go(1)
        self.assertEqual([kernel.slew_left(), kernel.read(2, "real"), kernel.slew_left()], [6, 124, 2])

    def test_go_makes_timers_expire(self):
        kernel = Kernel(32, (1, 0), coarse=10)
        for clock in ("boot", "real", "steady"):
            kernel.put(0, clock, 25, period=10, fragile=clock == "real")
        kernel.stop(4, 7)
        kernel.go(11)
        self.assertEqual(kernel.take(4), [(4, 0, 2), (4, 1, 2)])
        self.assertEqual([kernel.due(timer) for timer in range(3)], [45, 45, 25])

    def test_alarm(self):
        kernel = Kernel(32, (1, 0), coarse=10)
        kernel.put(0, "steady", 6)
        kernel.stop(4, 7)
        self.assertIsNone(kernel.alarm())
        kernel.go(7)
        kernel.put(4, "boot", 25, slack=3)
        kernel.stop(4, 7)
        self.assertEqual(kernel.alarm(), 9)
        kernel.go(7)
        kernel.put(4, "real", 14)
        kernel.stop(4, 7)
        self.assertEqual(kernel.alarm(), 8)
        kernel.go(8)
        # The timer on real has expired at exactly its due reading.
        self.assertEqual(kernel.take(4), [(4, 2, 1)])
        kernel.put(4, "real", 15, slack=8)
        kernel.stop(4, 0)
        self.assertEqual(kernel.alarm(), 0)


class Forecasts(unittest.TestCase):
    def test_when(self):
        kernel = Kernel(8, (3, 1))
        kernel.look(300)
        # What the counter has missed stays missed.
        self.assertEqual([kernel.when("steady", reading) for reading in (-5, 0, 66, 67, 69)], [300, 300, 300, 301, 302])
        self.assertEqual(kernel.when("steady", FAR), 256 + (2 * FAR + 2) // 3)
        self.assertEqual(kernel.count(), 44)

    def test_when_no_more(self):
        kernel = Kernel(8, (3, 1))
        kernel.process(0)
        kernel.thread(0, 0)
        self.assertEqual([kernel.when(("thread", 0), reading) for reading in (-1, 0, 1)], [0, 0, None])
        kernel.run(0, 0, [0])
        self.assertEqual(kernel.when(("thread", 0), 3 * FAR), 2 * FAR)
        kernel.limit(0, 0, 7)
        self.assertEqual([kernel.when(("thread", 0), reading) for reading in (7, 8)], [5, None])

    def test_when_a_slew_ends(self):
        kernel = Kernel(32, (8, 0))
        kernel.slew(0, 10, 4)
        self.assertEqual([kernel.when("real", reading) for reading in (12, 13, 24, 25, 34, 35)], [1, 2, 2, 3, 3, 4])
        kernel.slew(0, -10, 4)
        self.assertEqual([kernel.when("real", reading) for reading in (4, 5, 8, 9, 14, 15)], [1, 2, 2, 3, 3, 4])

    def test_when_threads_wake(self):
        kernel = Kernel(32, (1, 0))
        kernel.process(0)
        for _ in range(2):
            kernel.thread(0, 0)
        kernel.run(0, 0, [0, 1], quantum=4)
        kernel.put(0, "steady", 10)
        kernel.sleep(0, 1, 0)
        # Alone until 10, then 0 ends its turn at 12, and each has four counts of eight.
        self.assertEqual([kernel.when(("thread", 1), reading) for reading in (1, 4, 5, 8)], [13, 16, 21, 24])
        self.assertEqual([kernel.when(("thread", 0), reading) for reading in (12, 13, 17)], [12, 17, 25])
        self.assertEqual(kernel.when(("thread", 0), 4 * FAR), 8 * FAR - 12)
        self.assertEqual(kernel.take(9), [])


class History(unittest.TestCase):
    def test_runs(self):
        kernel = Kernel(32, (1, 1))
        kernel.set_real(4, 1)
        self.assertEqual(kernel.runs("real", 1), [(2, 4)])
        kernel.look(9)
        self.assertEqual([kernel.runs("real", reading) for reading in range(5)], [[(0, 1)], [(2, 5)], [(6, 7)], [(8, 9)], []])
        kernel.set_real(9, 0)
        kernel.look(10)
        # At count 9 the clock reads what it reads behind the last call at it.
        self.assertEqual([kernel.runs("real", reading) for reading in (0, 1, 3)], [[(0, 1), (9, 10)], [(2, 5)], [(8, 8)]])
        self.assertEqual(kernel.runs("steady", 4), [(8, 9)])
        self.assertEqual(kernel.runs("steady", -1), [])

    def test_runs_that_go_on_over_a_call(self):
        kernel = Kernel(32, (1, 3))
        kernel.set_rate(3, 2)
        kernel.set_rate(4, 1)
        kernel.look(100)
        self.assertEqual(kernel.runs("steady", 0), [(0, 6)])
        self.assertEqual(kernel.runs("boot", 1), [(7, 14)])

    def test_the_last_of_several_runs_goes_on(self):
        kernel = Kernel(32, (1, 3))
        for at in (9, 20, 31):
            kernel.set_real(at, 0)
        kernel.set_rate(33, 2)
        kernel.look(90)
        self.assertEqual(kernel.runs("real", 0), [(0, 7), (9, 16), (20, 27), (31, 35)])
        self.assertEqual(kernel.runs("real", 1), [(8, 8), (17, 19), (28, 30), (36, 39)])

    def test_runs_over_rates_that_are_far(self):
        kernel = Kernel(64, (1, 0))
        kernel.set_rate(10 ** 18, 2 ** 64 - 1)
        kernel.set_rate(2 * 10 ** 18, 1)
        self.assertEqual(kernel.runs("steady", 10 ** 18 + TOP), [(10 ** 18 + 1, 10 ** 18 + 1)])
        self.assertEqual(kernel.runs("steady", 10 ** 18 + TOP - 1), [])
        kernel.look(3 * 10 ** 18)
        self.assertEqual(kernel.reading_at("steady", 2 * 10 ** 18 + 5), 10 ** 18 + 10 ** 18 * TOP + 5)

    def test_a_clock_that_is_set_several_times_at_one_count(self):
        kernel = Kernel(32, (1, 0))
        for reading in (5, 9, 7):
            kernel.set_real(3, reading)
        self.assertEqual([kernel.runs("real", reading) for reading in (3, 5, 9, 7)], [[], [], [], [(3, 3)]])
        self.assertEqual(readings(kernel, "real", range(4)), [0, 1, 2, 7])

    def test_threads(self):
        kernel = Kernel(32, (2, 0))
        kernel.process(0)
        for _ in range(2):
            kernel.thread(3, 0)
        kernel.run(4, 0, [0, 1], quantum=2)
        kernel.leave(9, 0)
        kernel.look(11)
        self.assertEqual(readings(kernel, ("thread", 0), range(12)), [0, 0, 0, 0, 0, 2, 4, 4, 4, 6, 6, 6])
        self.assertEqual(readings(kernel, ("thread", 1), range(12)), [0, 0, 0, 0, 0, 0, 0, 2, 4, 4, 6, 8])
        self.assertEqual(readings(kernel, ("process", 0), range(12)), [0, 0, 0, 0, 0, 2, 4, 6, 8, 10, 12, 14])

    def test_the_count_must_be_known(self):
        kernel = Kernel(32, (2, 0))
        kernel.look(5)
        self.assertEqual(kernel.reading_at("steady", 5), 10)
        is_raised(self, errors.NoCycle, kernel.reading_at, ["steady", 6])
        is_raised(self, errors.NoCycle, kernel.reading_at, ["steady", -1])
        is_raised(self, errors.NoClock, kernel.reading_at, ["thread", -1])
