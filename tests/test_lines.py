"""Point 8: lines."""

import inspect
import random
import unittest

from tests.support import NOT_INTEGERS, NOT_TUPLES, called, check_wrong, is_raised
from timekernel.errors import NoCycle, NoLine, NoReading
from timekernel.lines import apart_many, first_ahead, first_apart, first_reach, line_reading, shows_run
from timekernel.sums import floor_sum

GOOD = (0, 3, 1)
WRONG_LINES = NOT_TUPLES + [
    (), (0,), (0, 3), (0, 3, 1, 1), [0, 3, 1], ("0", 3, 1), (True, 3, 1), (None, 3, 1), (1.0, 3, 1), ([], 3, 1),
    (0, -1, 1), (0, True, 1), (0, None, 1), (0, 3.0, 1), (0, {}, 1), (0, 3, -1), (0, 3, 65), (0, 3, True),
    (0, 3, None), (0, 3, "1"), (0, 3, [])]


def reads(line, cycle):
    return (line[0] + line[1] * cycle) // 2 ** line[2]


def first(holds, cycles):
    return next((cycle for cycle in cycles if holds(cycle)), None)


def small_lines(dice, values, slopes, shifts):
    return [(dice.randint(-values, values), dice.randint(0, slopes), dice.randint(0, shifts)) for _ in range(2)]


class OneLine(unittest.TestCase):
    def test_examples(self):
        self.assertEqual(shows_run((0, 3, 1), 3), (2, 2))
        self.assertEqual(line_reading((0, 3, 1), 5), 7)
        self.assertEqual(line_reading((-1, 0, 0), 10 ** 52), -1)
        self.assertEqual(line_reading((-1, 0, 64), 7), -1)

    def test_against_every_cycle(self):
        dice = random.Random(8)
        for _ in range(1500):
            line = small_lines(dice, 30, 9, 4)[0]
            cycle = dice.randint(0, 50)
            self.assertEqual(called(self, line_reading, line, cycle), reads(line, cycle))
            reading = dice.randint(-9, 25)
            cycles = range(1200)
            least = first(lambda at: reads(line, at) >= reading, cycles)
            past = first(lambda at: reads(line, at) > reading, cycles)
            self.assertEqual(called(self, first_reach, line, reading), least, (line, reading))
            run = None if least is None or least == past else (least, None if past is None else past - 1)
            self.assertEqual(called(self, shows_run, line, reading), run, (line, reading))

    def test_edges(self):
        self.assertEqual(first_reach((5, 0, 0), 5), 0)
        self.assertEqual(first_reach((5, 0, 0), 6), None)
        self.assertEqual(first_reach((-10 ** 130, 1, 0), 0), 10 ** 130)
        self.assertEqual(first_reach((0, 1, 64), 10 ** 129), 10 ** 129 << 64)
        self.assertEqual(shows_run((5, 0, 1), 2), (0, None))
        self.assertEqual(shows_run((5, 0, 1), 3), None)
        self.assertEqual(shows_run((0, 5, 0), 3), None)
        self.assertEqual(shows_run((7, 5, 0), 3), None)
        self.assertEqual(shows_run((-10 ** 130, 10 ** 129, 0), 0), (10, 10))
        self.assertEqual(shows_run((0, 1, 64), 10 ** 100), (10 ** 100 << 64, ((10 ** 100 + 1) << 64) - 1))

    def test_wrong(self):
        negative = NOT_INTEGERS + [-1, -10 ** 20]
        check_wrong(self, line_reading, [GOOD, 3], [(NoLine, WRONG_LINES), (NoCycle, negative)])
        check_wrong(self, first_reach, [GOOD, 3], [(NoLine, WRONG_LINES), (NoReading, NOT_INTEGERS)])
        check_wrong(self, shows_run, [GOOD, 3], [(NoLine, WRONG_LINES), (NoReading, NOT_INTEGERS)])


class Interface(unittest.TestCase):
    def test_names_of_parameters(self):
        for function, names in ((line_reading, "line cycle"), (first_reach, "line reading"), (shows_run, "line reading"),
                                (first_apart, "one other"), (first_ahead, "one other"), (apart_many, "one other last")):
            self.assertEqual(list(inspect.signature(function).parameters), names.split())
            self.assertEqual(function.__module__, "timekernel.lines")


class TwoLines(unittest.TestCase):
    def test_examples(self):
        self.assertEqual(first_apart((0, 3, 1), (0, 7, 2)), 3)
        self.assertEqual(first_ahead((0, 7, 2), (0, 3, 1)), 3)

    def test_against_every_cycle(self):
        dice = random.Random(9)
        for k in range(2500):
            one, other = small_lines(dice, dice.choice([3, 12, 60]), dice.choice([3, 12, 40]), 4)
            if k % 3 == 0:
                other = (other[0], one[1], one[2])
            # Within 16 cycles lines of one slope repeat themselves; others cross at 120 * 16 at the latest.
            cycles = range(2000)
            ahead = first(lambda at: reads(one, at) > reads(other, at), cycles)
            apart = first(lambda at: reads(one, at) != reads(other, at), cycles)
            self.assertEqual(called(self, first_ahead, one, other), ahead, (one, other))
            self.assertEqual(called(self, first_apart, one, other), apart, (one, other))

    def test_long_numbers_cross_far_away(self):
        dice = random.Random(10)
        for _ in range(400):
            shift = dice.randint(0, 7)
            slope = dice.randrange(10 ** 129)
            turn = dice.choice([1, 1, 2, 7, 100])
            value = dice.randrange(-10 ** 129, 10 ** 129)
            ahead = dice.randrange(10 ** 129)
            one, other = (value, slope + turn, shift), (value + ahead, slope, shift)
            # Until the lines cross, the steeper one is never ahead; a unit above it is.
            cross = ahead // turn
            cycles = range(cross, cross + 2 ** shift + 2)
            self.assertEqual(first_ahead(one, other), first(lambda at: reads(one, at) > reads(other, at), cycles))
            self.assertEqual(first_ahead(other, one), 0 if reads(other, 0) > reads(one, 0) else None
                             if ahead == 0 else first(lambda at: reads(other, at) > reads(one, at), range(200)))

    def test_slopes_that_are_nearly_alike(self):
        top = 2 ** 64
        self.assertEqual(first_ahead((0, 1, 64), (0, 0, 64)), top)
        self.assertEqual(first_ahead((0, 0, 64), (0, 1, 64)), None)
        self.assertEqual(first_apart((0, 0, 64), (0, 1, 64)), top)
        self.assertEqual(first_apart((0, 2, 64), (0, 1, 64)), top // 2)
        self.assertEqual(first_apart((0, 1, 64), (0, 1, 64)), None)
        self.assertEqual(first_apart((0, 2, 64), (0, 1, 63)), None)
        self.assertEqual(first_apart((0, 2 ** 100, 63), (1, 2 ** 101, 64)), None)
        self.assertEqual(first_apart((0, 3, 64), (1, 3, 64)), (top - 1) // 3)
        self.assertEqual(first_apart((10 ** 130, 10 ** 130, 64), (10 ** 130, 10 ** 130 + 1, 64)),
                         first_ahead((10 ** 130, 10 ** 130 + 1, 64), (10 ** 130, 10 ** 130, 64)))
        # An even slope never reaches the last odd part of a unit.
        self.assertEqual(first_apart((0, 2, 1), (1, 2, 1)), None)
        self.assertEqual(first_apart((-1, 0, 0), (-1, 0, 64)), None)
        self.assertEqual(first_apart((-2, 0, 0), (-1, 0, 64)), 0)

    def test_a_far_answer_is_the_first_one(self):
        dice = random.Random(12)
        for _ in range(60):
            unit = 2 ** 11
            slope = dice.randrange(10 ** 60)
            one, other = (dice.randrange(unit), slope + 1, 11), (dice.randrange(unit), slope, 11)
            cycles = range(2 * unit)
            apart = first(lambda at: reads(one, at) != reads(other, at), cycles)
            self.assertEqual(first_apart(one, other), apart)
            self.assertEqual(first_apart(other, one), apart)
            # The same lines in parts of a unit that is longer.
            longer = [(line[0] << 50, line[1] << 50, 61) for line in (one, other)]
            self.assertEqual(first_apart(*longer), apart)

    def test_apart_many_against_every_cycle(self):
        dice = random.Random(11)
        for _ in range(1500):
            one, other = small_lines(dice, dice.choice([3, 12, 60]), 40, 4)
            other = (other[0], one[1], one[2])
            last = dice.randint(0, 60)
            many = sum(reads(one, at) != reads(other, at) for at in range(last))
            self.assertEqual(called(self, apart_many, one, other, last), many)

    def test_apart_many_edges(self):
        self.assertEqual(apart_many((0, 3, 1), (5, 3, 1), 0), 0)
        self.assertEqual(apart_many((0, 0, 1), (1, 0, 1), 10 ** 52), 0)
        self.assertEqual(apart_many((0, 0, 1), (2, 0, 1), 10 ** 52), 10 ** 52)
        self.assertEqual(apart_many((0, 0, 1), (10 ** 130, 0, 1), 10 ** 130), 10 ** 130)
        # In each round of a unit they differ once for each part between them.
        self.assertEqual(apart_many((7, 10 ** 100 + 1, 3), (2, 10 ** 100 + 1, 3), 8 * 10 ** 50), 5 * 10 ** 50)
        self.assertEqual(apart_many((5, 3, 64), (5, 3, 64), 10 ** 52), 0)
        self.assertEqual(apart_many((5, 3, 64), (6, 3, 64), 2 ** 64 * 10 ** 30), 10 ** 30)

    def test_wrong(self):
        for function in (first_apart, first_ahead):
            check_wrong(self, function, [GOOD, GOOD], [(NoLine, WRONG_LINES), (NoLine, WRONG_LINES)])
        others = WRONG_LINES + [(0, 3, 2), (0, 2, 1), (5, 0, 0)]
        check_wrong(self, apart_many, [GOOD, GOOD, 3],
                    [(NoLine, WRONG_LINES), (NoLine, others), (NoCycle, NOT_INTEGERS + [-1])])
        is_raised(self, NoLine, apart_many, [GOOD, (0, 4, 1), -1])

    def test_sums(self):
        dice = random.Random(13)
        for _ in range(800):
            many, unit = dice.randint(0, 12), dice.randint(1, 20)
            slope, value = dice.randint(0, 60), dice.randint(-60, 60)
            self.assertEqual(floor_sum(many, unit, slope, value),
                             sum((value + slope * x) // unit for x in range(many)))
