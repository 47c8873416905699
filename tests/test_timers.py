"""Points 13 and 14: timers on clocks."""

import unittest

from tests.support import is_raised
from timekernel import errors
from timekernel.kernel import Kernel

FAR = 10 ** 50


class Expirations(unittest.TestCase):
    def test_examples(self):
        kernel = Kernel(32, (2, 0))
        self.assertEqual(kernel.put(0, "steady", 10, period=4), 0)
        self.assertEqual(kernel.take(9), [(5, 0, 3)])
        kernel = Kernel(32, (1, 0))
        self.assertEqual(kernel.put(0, "real", 50, fragile=True), 0)
        self.assertEqual(kernel.put(0, "real", 40), 1)
        kernel.set_real(10, 45)
        self.assertEqual(kernel.take(12), [(10, 0, 0), (10, 1, 1)])

    def test_once(self):
        kernel = Kernel(32, (3, 1))
        kernel.put(2, "steady", 8)
        self.assertEqual([kernel.timers(), kernel.due(0), kernel.expired(5, 0), kernel.take(5)], [[0], 8, 0, []])
        self.assertEqual([kernel.expired(6, 0), kernel.timers()], [1, []])
        is_raised(self, errors.NoTimer, kernel.due, [0])
        self.assertEqual([kernel.take(9), kernel.take(9), kernel.expired(9, 0)], [[(6, 0, 1)], [], 1])

    def test_at_once(self):
        kernel = Kernel(32, (1, 0))
        kernel.look(20)
        for due, period in ((20, None), (-5, None), (19, 5), (-10, 10), (21, 3)):
            kernel.put(20, "boot", due, period=period)
        self.assertEqual([kernel.expired(20, timer) for timer in range(5)], [1, 1, 1, 4, 0])
        self.assertEqual([kernel.timers(), kernel.due(2), kernel.due(3)], [[2, 3, 4], 24, 30])
        self.assertEqual(kernel.take(20), [(20, 0, 1), (20, 1, 1), (20, 2, 1), (20, 3, 4)])

    def test_two_takes_at_one_count(self):
        kernel = Kernel(32, (1, 0))
        kernel.put(0, "steady", 5, period=5)
        kernel.put(0, "steady", 5)
        self.assertEqual(kernel.take(5), [(5, 0, 1), (5, 1, 1)])
        kernel.put(5, "steady", 1)
        self.assertEqual(kernel.take(5), [(5, 2, 1)])
        self.assertEqual(kernel.take(20), [(10, 0, 3)])

    def test_far_periods(self):
        kernel = Kernel(64, (2 ** 64 - 1, 0))
        kernel.put(0, "steady", 1, period=1)
        kernel.put(0, "boot", 10 ** 30, period=10 ** 20)
        kernel.look(10 ** 18)
        reading = 10 ** 18 * (2 ** 64 - 1)
        self.assertEqual([kernel.expired(10 ** 18, timer) for timer in (0, 1)], [reading, (reading - 10 ** 30) // 10 ** 20 + 1])
        self.assertEqual([kernel.due(0), kernel.take(10 ** 18)],
                         [reading + 1, [(1, 0, reading), (10 ** 30 // (2 ** 64 - 1) + 1, 1, kernel.expired(10 ** 18, 1))]])

    def test_a_clock_that_is_set_back_reads_the_due_reading_again(self):
        kernel = Kernel(32, (1, 0))
        kernel.put(0, "real", 10, period=10)
        kernel.put(0, "real", 10)
        kernel.set_real(15, 5)
        kernel.set_real(24, 8)
        self.assertEqual([kernel.expired(30, 0), kernel.due(0), kernel.expired(30, 1)], [1, 20, 1])
        # The real clock reads 20 again, 12 counts behind 24.
        self.assertEqual(kernel.take(36), [(10, 0, 2), (10, 1, 1)])
        kernel.put(36, "real", 10, period=10)
        self.assertEqual([kernel.take(36), kernel.due(2)], [[(36, 2, 2)], 30])

    def test_due_between_two_calls_at_one_count(self):
        kernel = Kernel(32, (1, 0))
        kernel.put(0, "real", 40, period=7)
        kernel.set_real(10, 50)
        kernel.set_real(10, 0)
        self.assertEqual([kernel.due(0), kernel.take(10)], [54, [(10, 0, 2)]])

    def test_the_end_of_a_slew(self):
        kernel = Kernel(32, (8, 0))
        kernel.slew(0, 10, 4)
        for due in (24, 25, 34, 35):
            kernel.put(0, "real", due)
        kernel.slew(0, -10, 4)
        self.assertEqual(kernel.take(9), [(5, 0, 1), (5, 1, 1), (6, 2, 1), (6, 3, 1)])

    def test_a_rate_that_changes(self):
        kernel = Kernel(32, (1, 1))
        kernel.put(0, "steady", 10)
        kernel.put(0, "steady", 6, period=3)
        kernel.set_rate(10, 7)
        self.assertEqual(kernel.take(100), [(11, 1, 105), (12, 0, 1)])

    def test_budgets(self):
        kernel = Kernel(32, (1, 0), processors=2)
        kernel.process(0)
        for _ in range(3):
            kernel.thread(0, 0)
        kernel.put(0, ("thread", 1), 4)
        kernel.put(0, ("process", 0), 9, period=9)
        kernel.run(0, 0, [0, 1], quantum=3)
        kernel.run(0, 1, [2])
        self.assertEqual(kernel.take(20), [(5, 1, 4), (10, 0, 1)])
        self.assertEqual(kernel.due(1), 45)

    def test_what_was_dropped_is_still_taken(self):
        kernel = Kernel(32, (1, 0))
        kernel.put(0, "steady", 5, period=5)
        kernel.put(0, "steady", 5, period=50)
        kernel.drop(12, 0)
        kernel.drop(3 + 9, 1)
        self.assertEqual([kernel.timers(), kernel.expired(40, 0), kernel.take(40)], [[], 2, [(5, 0, 2), (5, 1, 1)]])
        is_raised(self, errors.NoTimer, kernel.drop, [40, 0])


class Breaks(unittest.TestCase):
    def test_breaks(self):
        kernel = Kernel(32, (1, 0))
        kernel.put(0, "real", 5, period=5, fragile=True)
        kernel.put(0, "real", 50, period=5)
        kernel.set_real(10, 60)
        self.assertEqual([kernel.timers(), kernel.expired(10, 0)], [[1], 2])
        self.assertEqual(kernel.take(11), [(5, 0, 2), (10, 0, 0), (10, 1, 3)])
        is_raised(self, errors.NoTimer, kernel.drop, [11, 0])
        kernel.put(11, "real", 70, fragile=True)
        # The same reading breaks, too.
        kernel.set_real(12, kernel.read(12, "real"))
        self.assertEqual(kernel.take(12), [(12, 2, 0)])

    def test_an_expiration_is_ahead_of_a_break(self):
        kernel = Kernel(32, (1, 0))
        kernel.put(0, "real", 10, period=5, fragile=True)
        kernel.put(0, "real", 10, fragile=True)
        kernel.put(0, "real", 12, period=5, fragile=True)
        kernel.set_real(10, 90)
        self.assertEqual(kernel.take(10), [(10, 0, 1), (10, 0, 0), (10, 1, 1), (10, 2, 0)])

    def test_go_breaks_none(self):
        kernel = Kernel(32, (1, 0))
        kernel.put(0, "real", 10, fragile=True)
        kernel.put(0, "real", 90, fragile=True)
        kernel.stop(5, 0)
        kernel.go(20)
        self.assertEqual([kernel.timers(), kernel.take(5)], [[1], [(5, 0, 1)]])

    def test_order_of_what_is_taken(self):
        kernel = Kernel(32, (1, 0), processors=2, tick=5)
        kernel.put_tick(0, 1, 2)
        kernel.put_tick(0, 0, 2)
        kernel.put(0, "steady", 10)
        kernel.put(0, "steady", 9)
        kernel.put(0, "real", 11, fragile=True)
        kernel.put(0, "boot", 10)
        kernel.set_real(10, 0)
        self.assertEqual(kernel.take(10), [(9, 3, 1), (10, 2, 1), (10, 4, 0), (10, 5, 1), (10, 1, 1), (10, 0, 1)])

    def test_answers_are_new(self):
        kernel = Kernel(32, (1, 0))
        kernel.put(0, "steady", 5)
        for function in (kernel.timers, kernel.windows, kernel.log, lambda: kernel.runs("real", 0)):
            function().clear()
            self.assertEqual(len(function()), 1)


class Many(unittest.TestCase):
    def test_a_hundred_timers(self):
        kernel = Kernel(64, (3, 1))
        for k in range(100):
            self.assertEqual(kernel.put(k, "steady", 1000 + 10 ** 16 * (k % 7), period=10 ** 15 + k), k)
        self.assertEqual(kernel.timers(), list(range(100)))
        at = 10 ** 18
        taken = kernel.take(at)
        self.assertEqual([timer for _, timer, _ in taken], sorted(range(100), key=lambda k: (k % 7, k)))
        for count, timer, times in taken:
            due = 1000 + 10 ** 16 * (timer % 7)
            self.assertEqual(count, (2 * due + 2) // 3)
            self.assertEqual(times, (3 * at // 2 - due) // (10 ** 15 + timer) + 1)
