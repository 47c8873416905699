import inspect
import itertools
import random
import unittest

from tests.support import NOT_INTEGERS, NOT_LISTS, NOT_TUPLES, called, check_wrong
from timekernel import rates
from timekernel.errors import NoCycle, NoRate, NoReading, NoWidth
from timekernel.rates import best_rate, first_cycle, longest_span, rate_reading, rates_seen

FAR = 10 ** 52
TOP = 2 ** 64 - 1
WRONG_SHIFTS = NOT_INTEGERS + [-1, 65, -64, 10 ** 50, -10 ** 50]
WRONG_RATES = (
    NOT_TUPLES + [(), (1,), (3, 1, 0), (0, 0), (-1, 0), (2 ** 64, 0), (10 ** 50, 0), (0, 65), (1, 1, 1, 1)]
    + [(1, shift) for shift in WRONG_SHIFTS] + [(mult, 1) for mult in NOT_INTEGERS]
)
WRONG_CYCLES = NOT_INTEGERS + [-1, -10 ** 50]
WRONG_WIDTHS = NOT_INTEGERS + [0, -1, 65, 10 ** 50]
WRONG_ROWS = (
    NOT_TUPLES + [(), (1,), (1, 2, 3), (-1, 0), (-10 ** 50, 0)]
    + [(0, thing) for thing in NOT_INTEGERS] + [(thing, 0) for thing in NOT_INTEGERS]
)
WRONG_SEEN = NOT_LISTS + [[]] + [[row] for row in WRONG_ROWS] + [[(0, 0), (4, 6), row] for row in WRONG_ROWS]


def explains(shift, seen, mult):
    """Whether some base gives all readings, found by trying each base that gives the first one."""
    cycle, reading = seen[0]
    first = (reading << shift) - mult * cycle
    return any(all(base + mult * at >> shift == shows for at, shows in seen) for base in range(first, first + 2 ** shift))


def slow_rates_seen(shift, seen, most):
    """What rates_seen returns, found by trying the multipliers up to `most`."""
    for many in range(1, len(seen) + 1):
        found = [mult for mult in range(1, most + 1) if explains(shift, seen[:many], mult)]
        if not found:
            return ("none", many)
    assert found == list(range(found[0], found[-1] + 1))
    return ("rates", found[0], None if found[-1] == most else found[-1])


class Readings(unittest.TestCase):
    def test_readings(self):
        self.assertEqual(rate_reading((3, 1), 0), 0)
        self.assertEqual([rate_reading((3, 1), cycles) for cycles in range(6)], [0, 1, 3, 4, 6, 7])
        self.assertEqual(rate_reading((5, 0), 7), 35)

    def test_first_cycles(self):
        self.assertEqual([first_cycle((3, 1), reading) for reading in range(8)], [0, 1, 2, 2, 3, 4, 4, 5])
        self.assertEqual(first_cycle((5, 0), 35), 7)
        self.assertEqual(first_cycle((5, 0), 36), 8)

    def test_edges_of_rates(self):
        self.assertEqual(rate_reading((1, 64), TOP), 0)
        self.assertEqual(rate_reading((1, 64), TOP + 1), 1)
        self.assertEqual(rate_reading((TOP, 64), 1), 0)
        self.assertEqual(rate_reading((TOP, 64), 2), 1)
        self.assertEqual(rate_reading((TOP, 0), 3), 3 * TOP)
        self.assertEqual(rate_reading((1, 0), 3), 3)
        self.assertEqual(first_cycle((1, 64), 1), TOP + 1)
        self.assertEqual(first_cycle((TOP, 64), 1), 2)
        self.assertEqual(first_cycle((TOP, 0), 1), 1)
        self.assertEqual(first_cycle((TOP, 0), TOP + 1), 2)
        self.assertEqual(first_cycle((1, 0), 9), 9)

    def test_far_numbers(self):
        self.assertEqual(rate_reading((TOP, 64), FAR), FAR - FAR // 2 ** 64 - 1)
        self.assertEqual(rate_reading((10, 0), FAR), 10 ** 53)
        self.assertEqual(first_cycle((10, 0), FAR + 1), 10 ** 51 + 1)
        self.assertEqual(first_cycle((1, 64), FAR), FAR * 2 ** 64)

    def test_first_cycle_is_the_least(self):
        chance = random.Random(5)
        for _ in range(500):
            rate = (chance.choice([1, 2, TOP, chance.randrange(1, 50), chance.randrange(1, 2 ** 64)]),
                    chance.choice([0, 1, 32, 63, 64, chance.randrange(65)]))
            reading = chance.choice([0, 1, chance.randrange(100), chance.randrange(10 ** 50)])
            cycles = called(self, first_cycle, rate, reading)
            self.assertGreaterEqual(called(self, rate_reading, rate, cycles), reading)
            if reading == 0:
                self.assertEqual(cycles, 0)
            else:
                self.assertLess(rate_reading(rate, cycles - 1), reading)

    def test_wrong_arguments(self):
        check_wrong(self, rate_reading, [(3, 1), 5], [(NoRate, WRONG_RATES), (NoCycle, WRONG_CYCLES)])
        check_wrong(self, first_cycle, [(3, 1), 5], [(NoRate, WRONG_RATES), (NoReading, WRONG_CYCLES)])


class Choices(unittest.TestCase):
    def test_example(self):
        self.assertEqual(best_rate(3, 10, 1000), (14316557653, 32))

    def test_greatest_shift_that_fits(self):
        self.assertEqual(best_rate(1, 1, 1), (2 ** 32, 32))
        self.assertEqual(best_rate(1, 1, 2 ** 32 - 1), (2 ** 32, 32))
        self.assertEqual(best_rate(1, 1, 2 ** 32), (2 ** 31, 31))
        self.assertEqual(best_rate(1, 1, TOP), (1, 0))
        self.assertIsNone(best_rate(1, 1, 2 ** 64))
        self.assertEqual(best_rate(1, TOP, 1), (TOP, 0))
        self.assertIsNone(best_rate(1, TOP + 1, 1))

    def test_multiplier_of_at_least_1(self):
        self.assertEqual(best_rate(2 ** 32, 1, 1), (1, 32))
        self.assertIsNone(best_rate(2 ** 32 + 1, 1, 1))
        self.assertEqual(best_rate(10 ** 50, 10 ** 50, 1), (2 ** 32, 32))
        self.assertEqual(best_rate(10 ** 50, 10 ** 41, 1), (4, 32))
        self.assertIsNone(best_rate(10 ** 50, 1, 1))
        self.assertIsNone(best_rate(1, 10 ** 50, 1))
        self.assertIsNone(best_rate(1, 1, 10 ** 50))

    def test_against_all_shifts(self):
        chance = random.Random(6)
        for _ in range(500):
            frequency, units, most = [chance.randrange(1, 10 ** chance.choice([1, 9, 12, 20])) for _ in range(3)]
            found = [(units * 2 ** shift // frequency, shift) for shift in range(33)]
            fits = [rate for rate in found if rate[0] >= 1 and rate[0] * most < 2 ** 64]
            self.assertEqual(best_rate(frequency, units, most), fits[-1] if fits else None)

    def test_longest_span(self):
        self.assertEqual(longest_span(8, (1, 0)), 255)
        self.assertEqual(longest_span(1, (1, 64)), 1)
        self.assertEqual(longest_span(1, (TOP, 0)), 1)
        self.assertEqual(longest_span(64, (1, 0)), TOP)
        self.assertEqual(longest_span(64, (2, 0)), 2 ** 63 - 1)
        self.assertEqual(longest_span(64, (3, 5)), TOP // 3)
        self.assertEqual(longest_span(64, (TOP, 64)), 1)
        self.assertEqual(longest_span(32, (2 ** 32, 32)), 2 ** 32 - 1)
        self.assertEqual(longest_span(32, (2 ** 32 + 1, 32)), 2 ** 32 - 1)
        self.assertEqual(longest_span(32, (2 ** 32 + 2, 32)), 2 ** 32 - 2)

    def test_wrong_arguments(self):
        wrong = (NoRate, NOT_INTEGERS + [0, -1, -10 ** 50])
        check_wrong(self, best_rate, [3, 10, 1000], [wrong, wrong, wrong])
        check_wrong(self, longest_span, [8, (3, 1)], [(NoWidth, WRONG_WIDTHS), (NoRate, WRONG_RATES)])


class Seen(unittest.TestCase):
    def test_examples(self):
        self.assertEqual(called(self, rates_seen, 2, [(0, 0), (4, 6)]), ("rates", 6, 6))
        self.assertEqual(called(self, rates_seen, 2, [(0, 0), (4, 6), (8, 3)]), ("none", 3))

    def test_no_bound(self):
        self.assertEqual(rates_seen(0, [(5, -7)]), ("rates", 1, None))
        self.assertEqual(rates_seen(64, [(FAR, FAR)]), ("rates", 1, None))
        self.assertEqual(rates_seen(3, [(5, -7), (5, -7), (5, -7)]), ("rates", 1, None))

    def test_shift_0(self):
        self.assertEqual(rates_seen(0, [(0, 5), (2, 11)]), ("rates", 3, 3))
        self.assertEqual(rates_seen(0, [(0, 5), (2, 12)]), ("none", 2))
        self.assertEqual(rates_seen(0, [(2, -5), (0, -11), (3, -2)]), ("rates", 3, 3))

    def test_shift_64(self):
        self.assertEqual(rates_seen(64, [(0, 0), (1, 1)]), ("rates", 1, 2 ** 65 - 1))
        self.assertEqual(rates_seen(64, [(0, 0), (1, 2)]), ("rates", 2 ** 64 + 1, 3 * 2 ** 64 - 1))
        self.assertEqual(rates_seen(64, [(0, 7), (10 ** 50, 7)]), ("none", 2))

    def test_multiplier_is_at_least_1(self):
        self.assertEqual(rates_seen(2, [(0, 0), (3, 0)]), ("rates", 1, 1))
        self.assertEqual(rates_seen(2, [(0, 0), (4, 0)]), ("none", 2))
        self.assertEqual(rates_seen(2, [(0, 0), (1, -1)]), ("none", 2))
        self.assertEqual(rates_seen(2, [(0, 1), (1, 1)]), ("rates", 1, 3))

    def test_one_cycle_with_two_readings(self):
        self.assertEqual(rates_seen(2, [(4, 6), (4, 6), (0, 0)]), ("rates", 6, 6))
        self.assertEqual(rates_seen(2, [(4, 6), (4, 7), (0, 0)]), ("none", 2))
        self.assertEqual(rates_seen(64, [(4, 6), (3, 6), (4, 5)]), ("none", 3))

    def test_first_tuples_that_nothing_explains(self):
        seen = [(0, 0), (10, 10), (20, 20), (30, 31), (40, 45), (50, 0)]
        self.assertEqual(rates_seen(0, seen), ("none", 4))
        self.assertEqual(rates_seen(0, seen[:3]), ("rates", 1, 1))
        self.assertEqual(rates_seen(5, seen), ("none", 5))
        self.assertEqual(rates_seen(5, seen[:4]), ("rates", 33, 33))

    def test_each_two_are_explained_but_not_all(self):
        seen = [(0, 0), (2, 2), (3, 2)]
        pairs = [rates_seen(1, list(pair)) for pair in itertools.combinations(seen, 2)]
        self.assertEqual(pairs, [("rates", 2, 2), ("rates", 1, 1), ("rates", 1, 1)])
        for row in itertools.permutations(seen):
            self.assertEqual(rates_seen(1, list(row)), ("none", 3))

    def test_all_small_cases(self):
        rows = list(itertools.product(range(4), range(-1, 3)))
        for shift in (0, 1, 2):
            for seen in itertools.product(rows, repeat=2):
                self.assertEqual(rates_seen(shift, list(seen)), slow_rates_seen(shift, seen, 60), seen)

    def test_against_each_multiplier(self):
        chance = random.Random(7)
        for _ in range(400):
            shift, mult, base = chance.randrange(4), chance.randrange(1, 20), chance.randrange(-30, 30)
            cycles = [chance.randrange(chance.choice([3, 12, 40])) for _ in range(chance.randrange(1, 8))]
            seen = [(cycle, base + mult * cycle >> shift) for cycle in cycles]
            if chance.random() < 0.4:
                place = chance.randrange(len(seen))
                seen[place] = (seen[place][0], seen[place][1] + chance.choice([-2, -1, 1, 2]))
            self.assertEqual(called(self, rates_seen, shift, seen), slow_rates_seen(shift, seen, 240), seen)

    def test_many_far_cycles_in_any_order(self):
        chance = random.Random(8)
        for shift in (0, 32, 64):
            mult, base = chance.randrange(1, 2 ** 64), chance.randrange(-FAR, FAR)
            cycles = [chance.randrange(FAR) for _ in range(290)]
            cycles = cycles + cycles[:10]
            seen = [(cycle, base + mult * cycle >> shift) for cycle in cycles]
            self.assertEqual(rates_seen(shift, seen), ("rates", mult, mult))
            wrong = seen[:250] + [(seen[250][0], seen[250][1] + 2)] + seen[251:]
            self.assertEqual(rates_seen(shift, wrong), ("none", 251))

    def test_order_does_not_matter(self):
        seen = [(0, 0), (7, 5), (3, 2), (20, 15)]
        for row in itertools.permutations(seen):
            self.assertEqual(rates_seen(4, list(row)), slow_rates_seen(4, seen, 60))

    def test_wrong_arguments(self):
        good = [2, [(0, 0), (4, 6)]]
        check_wrong(self, rates_seen, good, [(NoRate, WRONG_SHIFTS), (NoReading, WRONG_SEEN)])

    def test_wrong_rows_behind_a_contradiction(self):
        check_wrong(self, rates_seen, good=[0, [(0, 0)]],
                    wrong=[(NoRate, [65]), (NoReading, [[(0, 0), (0, 1), (1, None)]])])


class Interface(unittest.TestCase):
    def test_names_and_parameters(self):
        wanted = {rate_reading: "rate cycles", first_cycle: "rate reading", best_rate: "frequency units most",
                  longest_span: "width rate", rates_seen: "shift seen"}
        for function, names in wanted.items():
            self.assertEqual(list(inspect.signature(function).parameters), names.split())
            self.assertEqual(function.__module__, rates.__name__)

    def test_arguments_by_name(self):
        self.assertEqual(rate_reading(cycles=5, rate=(3, 1)), 7)
        self.assertEqual(first_cycle(reading=7, rate=(3, 1)), 5)
        self.assertEqual(best_rate(most=1000, units=10, frequency=3), (14316557653, 32))
        self.assertEqual(longest_span(rate=(1, 0), width=8), 255)
        self.assertEqual(rates_seen(seen=[(0, 0), (4, 6)], shift=2), ("rates", 6, 6))

    def test_kinds_of_values(self):
        self.assertIs(type(best_rate(3, 10, 1000)), tuple)
        self.assertIs(type(rates_seen(2, [(0, 0)])), tuple)
        self.assertIs(type(rate_reading((3, 1), 5)), int)
        self.assertIs(type(first_cycle((3, 1), 5)), int)
        self.assertIs(type(longest_span(8, (3, 1))), int)
