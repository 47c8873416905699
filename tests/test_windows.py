"""Point 17: looks that are enough for given windows."""

import inspect
import itertools
import random
import unittest

from tests.support import NOT_INTEGERS, NOT_LISTS, called, check_wrong, is_raised
from timekernel.errors import NoCycle, NoLooks, NoSpan, NoWindow, TooMany
from timekernel.windows import fewest, is_certificate, is_enough, needed

WRONG_ROWS = [[3, 9], (3,), (), (3, 9, 1), (9, 3), (-1, 3), (True, 3), (0, True), (3, None), (3, 9.0), ({}, []), None, 3]
WRONG_WINDOWS = NOT_LISTS + [[row] for row in WRONG_ROWS] + [[(3, 9), row] for row in WRONG_ROWS]
WRONG_CYCLES = NOT_INTEGERS + [-1]
WRONG = [(NoSpan, NOT_INTEGERS + [0, -5]), (NoWindow, WRONG_WINDOWS), (NoCycle, WRONG_CYCLES),
         (NoCycle, WRONG_CYCLES + [0, 1])]
GOOD = [20, [(3, 9), (5, 30)], 2, 60]


def enough(span, windows, begin, until, looks):
    """Whether looks are enough, word by word."""
    for one, other in itertools.pairwise([begin, *looks, until]):
        if other - one > span:
            return False
    return all(last < begin or last >= until or any(first <= look <= last for look in [begin, *looks])
               for first, last in windows)


def parts(cycles):
    """All parts of a list, the shortest first, and of one length the latest first."""
    for many in range(len(cycles) + 1):
        yield from sorted(map(list, itertools.combinations(cycles, many)), reverse=True)


def case_of(dice, most):
    begin = dice.randint(0, 3)
    until = dice.randint(begin, begin + most)
    windows = []
    for _ in range(dice.randint(0, 4)):
        first = dice.randint(0, until + 1)
        windows.append((first, first + dice.choice([0, 0, 1, 2, 3, 9])))
    return dice.choice([1, 2, 3, 5, 30]), windows, begin, until


class Looks(unittest.TestCase):
    def test_example(self):
        self.assertEqual(fewest(20, [(3, 9), (5, 30)], 0, 60), [9, 29, 49])

    def test_fewest_against_all_lists(self):
        dice = random.Random(17)
        for _ in range(600):
            given = case_of(dice, 9)
            cycles = list(range(given[2] + 1, given[3]))
            least = next(looks for looks in parts(cycles) if enough(*given, looks))
            self.assertEqual(called(self, fewest, *given), least, given)

    def test_needed_and_is_enough_against_all_lists(self):
        dice = random.Random(18)
        for _ in range(900):
            given = case_of(dice, 12)
            cycles = list(range(given[2] + 1, given[3]))
            looks = sorted(dice.sample(cycles, dice.randint(len(cycles) // 2, len(cycles))))
            holds = enough(*given, looks)
            self.assertIs(called(self, is_enough, *given, looks), holds, (given, looks))
            least = next((part for part in parts(looks) if enough(*given, part)), None)
            self.assertEqual(called(self, needed, *given, looks), least, (given, looks))
            self.assertEqual(least is not None, holds)

    def test_edges(self):
        self.assertEqual(fewest(1, [], 5, 5), [])
        self.assertEqual(fewest(1, [], 5, 8), [6, 7])
        self.assertEqual(fewest(5, [], 0, 5), [])
        self.assertEqual(fewest(5, [], 0, 6), [5])
        # The first look has seen what begins with it, but not what begins behind it.
        self.assertEqual(fewest(50, [(3, 5)], 3, 40), [])
        self.assertEqual(fewest(50, [(4, 5)], 3, 40), [5])
        self.assertEqual(fewest(50, [(4, 40)], 3, 40), [])
        self.assertEqual(fewest(50, [(4, 39)], 3, 40), [39])
        self.assertEqual(fewest(50, [(0, 2)], 3, 40), [])
        self.assertIs(is_enough(5, [], 3, 3, []), True)
        self.assertIs(is_enough(5, [], 3, 8, []), True)
        self.assertIs(is_enough(5, [], 3, 9, []), False)
        self.assertEqual(needed(5, [], 3, 3, []), [])
        self.assertIs(needed(5, [], 3, 9, []), None)

    def test_far_cycles(self):
        far = 10 ** 52
        self.assertEqual(fewest(far, [(5, far), (far + 1, far + 9)], 1, 2 * far + 1), [far, far + 9])
        self.assertEqual(fewest(10 ** 49, [], far, far + 3 * 10 ** 49), [far + 10 ** 49, far + 2 * 10 ** 49])
        self.assertEqual(needed(far, [(7, far - 1)], 0, 2 * far - 2, [5, 8, far - 1, far]), [far - 1])

    def test_two_thousand_looks(self):
        self.assertEqual(fewest(1, [], 0, 2001), list(range(1, 2001)))
        is_raised(self, TooMany, fewest, [1, [], 0, 2002])
        is_raised(self, TooMany, fewest, [1, [(5, 7)], 0, 10 ** 52])

    def test_what_are_no_looks(self):
        given = (5, [(4, 5)], 3, 9)
        self.assertIs(is_enough(*given, [5, 7]), True)
        for looks in NOT_LISTS + [[3, 5], [5, 9], [5, 5], [7, 5], [5, True], [5, None], [5.0], [5, [7]], [-1, 5],
                                  ["5"], [5, 10 ** 52], (5, 7), {5: 7}, {5, 7}]:
            self.assertIs(is_enough(*given, looks), False, looks)
            is_raised(self, NoLooks, needed, [*given, looks])

    def test_wrong(self):
        check_wrong(self, fewest, GOOD, WRONG)
        check_wrong(self, lambda *given: is_enough(*given, None), GOOD, WRONG)
        check_wrong(self, needed, GOOD + [[9, 29, 49]], WRONG + [(NoLooks, NOT_LISTS + [[2], [60], [True], [9, 9]])])
        check_wrong(self, lambda *given: is_certificate(*given, None), GOOD, WRONG)

    def test_answers_are_new(self):
        looks = [9, 29, 49]
        self.assertIsNot(needed(*GOOD, looks), looks)
        self.assertEqual(needed(*GOOD, looks), looks)


class Interface(unittest.TestCase):
    def test_names_of_parameters(self):
        for function, more in ((fewest, []), (is_enough, ["looks"]), (needed, ["looks"]), (is_certificate, ["stretches"])):
            names = ["span", "windows", "begin", "until"] + more
            self.assertEqual(list(inspect.signature(function).parameters), names)
            self.assertEqual(function.__module__, "timekernel.windows")


class Certificates(unittest.TestCase):
    def test_certificates(self):
        given = (20, [(3, 9), (5, 30)], 0, 60)
        for stretches in ([], [(3, 9)], [(3, 9), (10, 29), (30, 49)], [(5, 30)], [(1, 20), (21, 40)], [(40, 59)]):
            self.assertIs(called(self, is_certificate, *given, stretches), True, stretches)
        for stretches in ([(0, 19)], [(41, 60)], [(3, 9), (9, 28)], [(10, 29), (3, 9)], [(3, 8)], [(5, 9)],
                          [(3, 9), (3, 9)], [(1, 21)], [(10, 28)], [(3, 9), (5, 30)], [(30, 5)],
                          [(3, 9, 1)], [[3, 9]], [3], [None], [(3, None)], [(3, 9), {}], [(3.0, 9)], [([], 9)]):
            self.assertIs(called(self, is_certificate, *given, stretches), False, stretches)
        for stretches in NOT_LISTS:
            self.assertIs(is_certificate(*given, stretches), False)

    def test_edges(self):
        self.assertIs(is_certificate(1, [], 5, 8, [(6, 6), (7, 7)]), True)
        self.assertIs(is_certificate(1, [], 5, 8, [(5, 5)]), False)
        self.assertIs(is_certificate(1, [], 5, 8, [(8, 8)]), False)
        self.assertIs(is_certificate(1, [], 5, 8, [(True, 6)]), False)
        # A window that has been looked at, or need not be, is none that needs a look.
        self.assertIs(is_certificate(9, [(5, 6)], 5, 8, [(5, 6)]), False)
        self.assertIs(is_certificate(9, [(6, 8)], 5, 8, [(6, 8)]), False)

    def test_no_list_that_is_enough_has_fewer_looks(self):
        dice = random.Random(19)
        many = 0
        for _ in range(2000):
            span, windows, begin, until = case_of(dice, 9)
            stretches = sorted(dice.sample(windows, dice.randint(0, len(windows))))
            if dice.random() < 0.5:
                start = dice.randint(0, until)
                stretches = sorted(stretches + [(start, start + span - 1)])
            holds = (all(begin < first <= last < until for first, last in stretches)
                     and all(one[1] < other[0] for one, other in itertools.pairwise(stretches)))
            self.assertIs(is_certificate(span, windows, begin, until, stretches), holds)
            if holds:
                many += len(stretches)
                self.assertGreaterEqual(len(fewest(span, windows, begin, until)), len(stretches))
        self.assertGreater(many, 100)
