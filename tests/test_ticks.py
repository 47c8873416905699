"""Points 18 and 19: tick timers."""

import random
import unittest

from tests.support import is_raised
from timekernel import errors
from timekernel.kernel import Kernel


def order_of(base, levels, puts, due):
    """The order in which timers for one due tick expire that are put at these ticks."""
    kernel = Kernel(64, (1, 0), base=base, levels=levels)
    for now in puts:
        kernel.put_tick(now, 0, due)
    return [timer for _, timer, _ in kernel.take(due)]


class Ticks(unittest.TestCase):
    def test_example(self):
        kernel = Kernel(32, (1, 0), base=10, levels=["stack"])
        self.assertEqual([kernel.put_tick(now, 0, 205) for now in (3, 150, 200, 203)], [0, 1, 2, 3])
        self.assertEqual(kernel.take(300), [(205, 3, 1), (205, 2, 1), (205, 0, 1), (205, 1, 1)])

    def test_begin_of_ticks(self):
        kernel = Kernel(32, (3, 1), tick=4)
        for due in (1, 2, 3):
            kernel.put_tick(0, 0, due)
        self.assertEqual([kernel.due(0), kernel.due(2), kernel.timers()], [1, 3, [0, 1, 2]])
        self.assertEqual([kernel.expired(2, 0), kernel.expired(3, 0), kernel.timers()], [0, 1, [1, 2]])
        self.assertEqual(kernel.take(8), [(3, 0, 1), (6, 1, 1), (8, 2, 1)])
        is_raised(self, errors.NoTimer, kernel.due, [0])
        is_raised(self, errors.NoTick, kernel.put_tick, [8, 0, 3])
        self.assertEqual(kernel.put_tick(8, 0, 4), 3)

    def test_empty_ticks(self):
        kernel = Kernel(32, (9, 0), tick=4)
        for due in (5, 3, 1, 2, 4):
            kernel.put_tick(0, 0, due)
        # The clock reads 9, 18 and 27: ticks 1 and 3 are empty, tick 5 too.
        self.assertEqual(kernel.take(3), [(1, 2, 1), (1, 3, 1), (2, 1, 1), (2, 4, 1), (3, 0, 1)])

    def test_order_of_ticks_and_processors(self):
        kernel = Kernel(32, (100, 0), processors=3, tick=4)
        for processor, due in ((2, 5), (1, 7), (0, 7), (1, 5), (0, 25), (2, 1)):
            kernel.put_tick(0, processor, due)
        self.assertEqual(kernel.take(1), [(1, 5, 1), (1, 3, 1), (1, 0, 1), (1, 2, 1), (1, 1, 1), (1, 4, 1)])

    def test_drop(self):
        kernel = Kernel(32, (1, 0))
        for _ in range(3):
            kernel.put_tick(0, 0, 5)
        kernel.drop(2, 1)
        is_raised(self, errors.NoTimer, kernel.drop, [2, 1])
        kernel.drop(2, 0)
        kernel.drop(2, 2)
        self.assertEqual(kernel.timers(), [])
        kernel.put_tick(2, 0, 5)
        self.assertEqual([kernel.take(9), kernel.expired(9, 1), kernel.expired(9, 3)], [[(5, 3, 1)], 0, 1])

    def test_numbers_are_counted_together(self):
        kernel = Kernel(32, (1, 0))
        self.assertEqual([kernel.put_tick(0, 0, 5), kernel.put(0, "real", 5), kernel.put_tick(0, 0, 6)], [0, 1, 2])
        self.assertEqual(kernel.take(9), [(5, 1, 1), (5, 0, 1), (6, 2, 1)])

    def test_rates_and_stops(self):
        kernel = Kernel(32, (1, 0), tick=10, coarse=100)
        kernel.put_tick(0, 0, 3)
        kernel.set_rate(5, 5)
        kernel.set_real(6, 1000)
        kernel.stop(7, 0)
        kernel.go(50)
        self.assertEqual(kernel.windows(), [(10, 11, 0)])
        self.assertEqual(kernel.take(20), [(10, 0, 1)])

    def test_far_ticks(self):
        kernel = Kernel(64, (2 ** 64 - 1, 0), tick=3, base=2, levels=["stack"])
        due = 10 ** 37
        kernel.put_tick(0, 0, due)
        kernel.put_tick(0, 0, 10 ** 59)
        self.assertEqual(kernel.take(10 ** 19), [(-(-3 * due // (2 ** 64 - 1)), 0, 1)])


class Order(unittest.TestCase):
    def test_levels_are_copied(self):
        levels = ["stack"]
        kernel = Kernel(32, (1, 0), base=10, levels=levels)
        levels[0] = "queue"
        levels.append("heap")
        for _ in range(2):
            kernel.put_tick(0, 0, 5)
        self.assertEqual(kernel.take(5), [(5, 1, 1), (5, 0, 1)])

    def test_one_level_of_each_word(self):
        self.assertEqual(order_of(10, None, [0, 1, 2], 5), [0, 1, 2])
        self.assertEqual(order_of(10, ["stack"], [0, 1, 2], 5), [2, 1, 0])
        self.assertEqual(order_of(10, ["stack", "queue"], [0, 1, 2], 50), [0, 1, 2])
        self.assertEqual(order_of(10, ["queue", "stack"], [0, 1, 2], 50), [2, 1, 0])

    def test_stations(self):
        # To 1203 from 203: indexes 3, 2 and 0; from 1003: 2 and 0; from 1200: 0.
        self.assertEqual(order_of(10, ["stack", "stack", "queue", "stack"], [203, 1003, 1200], 1203), [2, 1, 0])
        self.assertEqual(order_of(10, ["queue", "stack", "stack", "stack"], [203, 1003, 1200], 1203), [1, 0, 2])
        self.assertEqual(order_of(10, ["stack", "queue", "queue", "queue"], [203, 1003, 1200], 1203), [2, 1, 0])
        # The words behind the list are the last one.
        self.assertEqual(order_of(10, ["queue", "stack"], [0, 5, 250], 1000), [2, 1, 0])

    def test_against_digits(self):
        dice = random.Random(3)
        for _ in range(150):
            base = dice.choice([2, 3, 10, 16, 64])
            levels = [dice.choice(["stack", "queue"]) for _ in range(dice.randint(1, 4))]
            due = dice.choice([dice.randint(5, 70), dice.randint(10 ** 6, 10 ** 17)])
            puts = sorted([dice.randrange(due) for _ in range(6)] + [due - 1, due - due % base ** 2 if due % base ** 2 else 0])
            expected = []
            for timer, now in enumerate(puts):
                expected.insert(0 if is_ahead(base, levels, now, due) else timer, timer)
            self.assertEqual(order_of(base, levels, puts, due), expected, (base, levels, puts, due))


def is_ahead(base, levels, now, due):
    digits = []
    for number in (now, due):
        digits.append([number // base ** k % base for k in range(70)])
    top = max(k for k in range(70) if digits[0][k] != digits[1][k])
    stations = [top] + [k for k in range(top) if digits[1][k]]
    return [levels[min(k, len(levels) - 1)] for k in stations].count("stack") % 2 == 1


class HandOver(unittest.TestCase):
    def test_hand_over(self):
        kernel = Kernel(32, (1, 0), processors=3, base=10, levels=["stack"])
        for now, processor, due in ((0, 0, 9), (0, 0, 9), (0, 0, 7), (1, 1, 9), (2, 0, 15), (2, 2, 9)):
            kernel.put_tick(now, processor, due)
        # They expire as 2, then 1 and 0, then 4, and are put in this order: again in front of each other.
        self.assertEqual(kernel.hand_over(3, 0, 1), [2, 1, 0, 4])
        self.assertEqual(kernel.hand_over(3, 0, 1), [])
        self.assertEqual(kernel.take(20), [(7, 2, 1), (9, 0, 1), (9, 1, 1), (9, 3, 1), (9, 5, 1), (15, 4, 1)])

    def test_anew_at_the_present_tick(self):
        # Put at 0 for 12 with two stations, a timer goes behind; at 10 with one station, in front.
        kernel = Kernel(32, (1, 0), processors=2, base=10, levels=["stack"])
        kernel.put_tick(0, 0, 12)
        kernel.put_tick(0, 0, 12)
        kernel.put_tick(0, 1, 12)
        self.assertEqual(kernel.hand_over(10, 0, 1), [0, 1])
        self.assertEqual(kernel.hand_over(10, 1, 0), [1, 0, 2])
        self.assertEqual(kernel.take(12), [(12, 2, 1), (12, 0, 1), (12, 1, 1)])

    def test_what_has_expired_stays(self):
        kernel = Kernel(32, (1, 0), processors=2)
        kernel.put_tick(0, 0, 3)
        kernel.put(0, "steady", 3)
        kernel.put_tick(0, 0, 8)
        self.assertEqual(kernel.hand_over(3, 0, 1), [2])
        self.assertEqual(kernel.take(9), [(3, 1, 1), (3, 0, 1), (8, 2, 1)])
