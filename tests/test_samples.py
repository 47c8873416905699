"""Point 22: threads that are never sampled."""

import inspect
import math
import random
import unittest

from tests.support import NOT_INTEGERS, OTHER_OBJECTS, called, check_wrong
from timekernel.errors import NoQuantum, NoRate, NoThread, NoTick
from timekernel.kernel import Kernel
from timekernel.samples import never_sampled

TOP = 2 ** 64 - 1
BELOW_1 = NOT_INTEGERS + [0, -1, -10 ** 50]
WRONG = [
    (NoRate, OTHER_OBJECTS + [[3, 1], 3, (), (3,), (0, 1), (TOP + 1, 1), (3, 65), (3, -1), (True, 1), (3, False),
                              (3, 1, 1), ({}, 1), (1, [])]),
    (NoTick, BELOW_1), (NoQuantum, BELOW_1), (NoThread, BELOW_1 + [41, 10 ** 50])]


def begin(rate, tick, number):
    """The count at which a tick begins."""
    mult, shift = rate
    return -(-number * (tick << shift) // mult)


def runner(count, quantum, many):
    """The thread that runs at a count."""
    return count // quantum % many


class NeverSampled(unittest.TestCase):
    def test_example(self):
        self.assertEqual(never_sampled((1, 0), 10, 5, 2), [1])

    def test_by_hand(self):
        self.assertEqual(never_sampled((1, 0), 1, 1, 5), [])
        self.assertEqual(never_sampled((1, 0), 4, 1, 4), [1, 2, 3])
        self.assertEqual(never_sampled((1, 0), 4, 2, 3), [])
        self.assertEqual(never_sampled((1, 0), 6, 2, 3), [1, 2])
        self.assertEqual(never_sampled((1, 0), 3, 1, 6), [1, 2, 4, 5])
        # One thread runs at all counts, and thread 0 when whole rounds are over.
        self.assertEqual(never_sampled((7, 3), 5, 9, 1), [])
        self.assertEqual(never_sampled((1, 0), 80, 2, 40), list(range(1, 40)))
        # Ticks of 5 parts by 2 parts for each count begin at 3, 5, 8, 10.
        self.assertEqual(never_sampled((2, 0), 5, 1, 5), [1, 2, 4])

    def test_against_every_tick_of_a_whole_period(self):
        dice = random.Random(22)
        for _ in range(1500):
            rate = (dice.randint(1, 12), dice.randint(0, 3))
            tick, quantum, many = dice.randint(1, 12), dice.randint(1, 6), dice.randint(1, 5)
            # So many ticks take whole rounds.
            ticks = range(1, quantum * many * rate[0] + 1)
            met = {runner(begin(rate, tick, number), quantum, many) for number in ticks}
            self.assertEqual(called(self, never_sampled, rate, tick, quantum, many),
                             [thread for thread in range(many) if thread not in met], (rate, tick, quantum, many))

    def test_against_a_kernel(self):
        dice = random.Random(23)
        for _ in range(150):
            rate = (dice.randint(1, 9), dice.randint(0, 2))
            tick, quantum, many = dice.randint(1, 12), dice.randint(1, 4), dice.randint(1, 4)
            kernel = Kernel(64, rate, tick=tick)
            kernel.process(0)
            threads = [kernel.thread(0, 0) for _ in range(many)]
            kernel.run(0, 0, threads, quantum=quantum)
            end = begin(rate, tick, quantum * many * rate[0]) + 1
            self.assertEqual([thread for thread in threads if kernel.sampled(end, thread) == 0],
                             never_sampled(rate, tick, quantum, many))

    def test_scaled(self):
        """With a part for each count nothing is rounded: a greater unit of counts changes nothing."""
        dice = random.Random(24)
        scale = 10 ** 58
        for _ in range(200):
            tick, quantum, many = dice.randint(1, 30), dice.randint(1, 9), dice.randint(1, 40)
            self.assertEqual(never_sampled((1, 0), tick * scale, quantum * scale, many),
                             never_sampled((1, 0), tick, quantum, many))

    def test_far_ticks(self):
        """Each thread that is sampled has a tick that shows it; the others lie between multiples of a divisor."""
        dice = random.Random(25)
        for _ in range(60):
            rate = (dice.randrange(1, 2 ** 64), dice.randrange(65))
            quantum, many = dice.randrange(1, 10 ** 60), dice.randint(2, 40)
            whole = quantum * many * rate[0]
            tick = dice.choice([dice.randrange(10 ** 60), quantum * dice.randint(1, 50), quantum * many]) or 1
            unit = tick << rate[1]
            common = math.gcd(unit, whole)
            inverse = pow(unit // common, -1, whole // common) if whole > common else 0
            found = never_sampled(rate, tick, quantum, many)
            self.assertNotIn(0, found)
            for thread in range(many):
                # The last parts of the turn at which a multiple of the divisor may lie.
                last = ((thread + 1) * quantum - 1) * rate[0] // common
                number = last * inverse % (whole // common) + whole
                if thread not in found:
                    self.assertEqual(runner(begin(rate, tick, number), quantum, many), thread)
                else:
                    self.assertLessEqual(last * common, (thread * quantum - 1) * rate[0])

    def test_limits(self):
        self.assertEqual(len(never_sampled((TOP, 64), 10 ** 60 - 1, 10 ** 60 - 2, 40)), 0)
        self.assertEqual(never_sampled((1, 64), 40, 2 ** 64, 40), list(range(1, 40)))
        self.assertEqual(never_sampled((TOP, 0), TOP, 1, 40), [])

    def test_wrong(self):
        check_wrong(self, never_sampled, [(3, 1), 7, 5, 3], WRONG)

    def test_the_interface(self):
        self.assertEqual(str(inspect.signature(never_sampled)), "(rate, tick, quantum, many)")
        self.assertEqual(never_sampled.__module__, "timekernel.samples")
        self.assertEqual(never_sampled(many=2, quantum=5, tick=10, rate=(1, 0)), [1])
        answer = never_sampled((1, 0), 10, 5, 2)
        answer.append(7)
        self.assertEqual(never_sampled((1, 0), 10, 5, 2), [1])
