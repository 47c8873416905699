"""Points 15 and 16: windows, plans and certificates of kernels."""

import unittest

from tests.support import is_raised
from timekernel import errors
from timekernel.kernel import Kernel

TOP = 2 ** 64 - 1
FAR = 10 ** 50


class Windows(unittest.TestCase):
    def test_windows(self):
        kernel = Kernel(8, (3, 1))
        kernel.look(300)
        kernel.put(300, "steady", 90, slack=6)
        kernel.put(300, "boot", 80)
        kernel.put(300, "real", 80, slack=10 ** 20, period=5)
        kernel.put(300, "steady", 50)
        # Count 44 at cycle 300; 80 is read at count 54.
        self.assertEqual(kernel.windows(), [(310, 310, 1), (310, 256 + (2 * 10 ** 20 + 160 + 2) // 3, 2), (316, 320, 0)])

    def test_clocks_that_stand_still(self):
        kernel = Kernel(32, (1, 0))
        kernel.process(0)
        kernel.thread(0, 0)
        kernel.thread(0, 0)
        kernel.put(0, ("thread", 0), 5, slack=2)
        kernel.put(0, ("thread", 0), 4, slack=1)
        kernel.put(0, ("thread", 1), 1)
        kernel.run(0, 0, [0])
        kernel.limit(0, 0, 6)
        self.assertEqual(kernel.windows(), [(4, 5, 1), (5, None, 0)])
        kernel.limit(0, 0, 4)
        self.assertEqual(kernel.windows(), [(4, None, 1)])
        # A window without an end needs no look.
        self.assertEqual(kernel.plan(10 ** 9), [])
        self.assertEqual(kernel.certificate(2 ** 32), [("span", 1, 2 ** 32 - 1)])

    def test_tick_timers(self):
        kernel = Kernel(32, (3, 1), tick=4)
        kernel.put_tick(0, 0, 2)
        kernel.put_tick(0, 0, 1)
        # Tick 1 begins at count 3, tick 2 at count 6, tick 3 at count 8.
        self.assertEqual(kernel.windows(), [(3, 5, 1), (6, 7, 0)])
        kernel = Kernel(32, (9, 0), tick=4)
        kernel.put_tick(0, 0, 3)
        kernel.put_tick(0, 0, 1)
        kernel.put_tick(0, 0, 2)
        # Tick 1 is empty, and tick 2 begins at the same count.
        self.assertEqual(kernel.windows(), [(1, 1, 1), (1, 1, 2), (2, 2, 0)])

    def test_far_windows(self):
        kernel = Kernel(64, (1, 1), tick=10 ** 49)
        kernel.put(0, "boot", FAR, slack=FAR)
        kernel.put_tick(0, 0, 7)
        self.assertEqual(kernel.windows(), [(14 * 10 ** 49, 16 * 10 ** 49 - 1, 1), (2 * FAR, 4 * FAR, 0)])


class Plans(unittest.TestCase):
    def test_example(self):
        kernel = Kernel(8, (1, 0))
        kernel.put(0, "steady", 100, slack=20)
        self.assertEqual(kernel.plan(400), [120, 375])
        self.assertEqual(kernel.certificate(400), [("window", 0, 100, 120), ("span", 121, 375)])

    def test_spans(self):
        kernel = Kernel(4, (1, 0))
        kernel.look(20)
        self.assertEqual([kernel.plan(until) for until in (20, 35, 36, 51)], [[], [], [35], [35, 50]])
        self.assertEqual(kernel.certificate(51), [("span", 21, 35), ("span", 36, 50)])
        for until in (19, -1):
            is_raised(self, errors.NoCycle, kernel.plan, [until])
            is_raised(self, errors.NoCycle, kernel.certificate, [until])

    def test_spans_of_the_present_multiplier(self):
        kernel = Kernel(64, (1, 0))
        kernel.set_rate(0, TOP // 10)
        self.assertEqual(kernel.plan(25), [10, 20])
        kernel.set_rate(3, TOP)
        self.assertEqual(kernel.plan(6), [4, 5])
        kernel.set_rate(3, 1)
        self.assertEqual(kernel.plan(TOP + 4), [TOP + 3])
        self.assertEqual(kernel.plan(TOP + 3), [])

    def test_windows_that_one_look_lies_in(self):
        kernel = Kernel(32, (1, 0))
        kernel.put(0, "steady", 10, slack=20)
        kernel.put(0, "real", 25, slack=100)
        kernel.put(0, "boot", 31, slack=0)
        self.assertEqual(kernel.plan(100), [30, 31])
        self.assertEqual(kernel.certificate(100), [("window", 0, 10, 30), ("window", 2, 31, 31)])
        self.assertEqual([kernel.plan(30), kernel.plan(31), kernel.plan(32)], [[], [30], [30, 31]])

    def test_periodic_timers(self):
        kernel = Kernel(32, (1, 0))
        kernel.put(0, "steady", 10, slack=25, period=10)
        # The look at 35 lies in the windows that begin at 10, 20 and 30.
        self.assertEqual(kernel.plan(120), [35, 65, 95])
        self.assertEqual(kernel.certificate(120), [("window", 0, 10, 35), ("window", 0, 40, 65), ("window", 0, 70, 95)])
        kernel.look(11)
        self.assertEqual(kernel.plan(80), [45, 75])

    def test_periods_that_are_shorter_than_a_count(self):
        kernel = Kernel(32, (10, 0))
        kernel.put(0, "steady", 12, period=3)
        self.assertEqual(kernel.plan(6), [2, 3, 4, 5])
        self.assertEqual(kernel.certificate(4), [("window", 0, 2, 2), ("window", 0, 3, 3)])

    def test_both_reasons(self):
        kernel = Kernel(4, (1, 0))
        kernel.put(0, "steady", 8, slack=7)
        self.assertEqual(kernel.certificate(16), [("window", 0, 8, 15)])

    def test_several_windows_that_end_together(self):
        kernel = Kernel(32, (1, 0))
        for due in (15, 12, 14, 12):
            kernel.put(0, "steady", due, slack=20 - due)
        self.assertEqual(kernel.certificate(30), [("window", 1, 12, 20)])

    def test_tick_timers(self):
        kernel = Kernel(32, (1, 0), tick=10)
        kernel.put_tick(0, 0, 3)
        kernel.put(0, "boot", 38)
        self.assertEqual([kernel.plan(39), kernel.plan(38)], [[38], []])
        kernel.drop(0, 1)
        self.assertEqual(kernel.certificate(40), [("window", 0, 30, 39)])

    def test_a_sleeper_that_wakes_between(self):
        kernel = Kernel(32, (1, 0))
        kernel.process(0)
        kernel.thread(0, 0)
        kernel.run(0, 0, [0])
        kernel.put(0, "steady", 7, slack=90)
        kernel.sleep(0, 0, 0)
        kernel.put(0, ("thread", 0), 5, slack=3)
        self.assertEqual([kernel.plan(60), kernel.windows()], [[15], [(7, 97, 0), (12, 15, 1)]])

    def test_two_hundred_looks(self):
        kernel = Kernel(1, (1, 0))
        self.assertEqual(kernel.plan(201), list(range(1, 201)))
        self.assertEqual(len(kernel.certificate(201)), 200)
        for until in (202, 10 ** 52):
            is_raised(self, errors.TooMany, kernel.plan, [until])
            is_raised(self, errors.TooMany, kernel.certificate, [until])

    def test_plans_change_nothing(self):
        kernel = Kernel(8, (1, 0))
        kernel.put(0, "steady", 10, period=10)
        plan = kernel.plan(35)
        self.assertEqual(plan, [10, 20, 30])
        plan.clear()
        self.assertEqual([kernel.plan(35), kernel.due(0), kernel.last(), kernel.timers()], [[10, 20, 30], 10, 0, [0]])
        kernel.look(12)
        self.assertEqual(kernel.plan(35), [20, 30])

    def test_looks_by_the_plan_miss_nothing(self):
        kernel, other = Kernel(5, (3, 1), tick=7), Kernel(40, (3, 1), tick=7)
        for one in (kernel, other):
            one.put(0, "steady", 9, slack=4, period=11)
            one.put_tick(0, 0, 5)
        for look in kernel.plan(400):
            kernel.look(look)
        self.assertEqual([kernel.read(400, "steady"), kernel.take(400)], [other.read(400, "steady"), other.take(400)])
