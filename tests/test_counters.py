import inspect
import itertools
import random
import unittest

from tests.support import NOT_INTEGERS, NOT_LISTS, called, check_wrong
from timekernel import counters
from timekernel.counters import counted, histories_many, least_history, lost, shown
from timekernel.errors import NoCycle, NoLooks, NoWidth

FAR = 10 ** 52
WRONG_WIDTHS = NOT_INTEGERS + [0, -1, -64, 65, 128, 10 ** 59, -10 ** 59]
WRONG_LOOKS = (
    NOT_LISTS + [[], [-1], [5, 4], [1, 5, 4, 9], [0, 0, -1], [3, 2, 12], [FAR, FAR - 1]]
    + [[thing] for thing in NOT_INTEGERS] + [[0, thing] for thing in NOT_INTEGERS]
    + [[thing, 10 ** 9] for thing in NOT_INTEGERS]
)
# Wrong for width 4.
WRONG_VALUES = (
    NOT_LISTS + [[], [-1], [16], [0, 15, 16], [3, -1], [10 ** 50], [-10 ** 50]]
    + [[thing] for thing in NOT_INTEGERS] + [[0, thing] for thing in NOT_INTEGERS]
    + [[thing, 1] for thing in NOT_INTEGERS]
)
WRONG_CYCLES = NOT_INTEGERS + [-1, -10 ** 50]


def some_looks(chance, many, width):
    """Looks with equal ones, and with gaps near and beyond whole wraps."""
    looks = [chance.choice([0, 1, chance.randrange(1 << width), chance.randrange(FAR)])]
    for _ in range(many - 1):
        near = chance.choice([0, 1, 2, 10 ** 30]) << width
        looks.append(looks[-1] + max(0, near + chance.choice([-1, 0, 1, chance.randrange(1 << width)])))
    return looks


def all_histories(width, values, last):
    """All lists of looks that show the values, found by trying each list of cycles."""
    lists = itertools.combinations_with_replacement(range(last + 1), len(values))
    return [list(looks) for looks in lists if [look & (1 << width) - 1 for look in looks] == values]


class Looks(unittest.TestCase):
    def test_examples(self):
        self.assertEqual(called(self, shown, 4, [3, 18, 60]), [3, 2, 12])
        self.assertEqual(called(self, counted, 4, [3, 18, 60]), 25)
        self.assertEqual(called(self, lost, 4, [3, 18, 60]), [(2, 32)])

    def test_one_look(self):
        self.assertEqual(shown(4, [100]), [4])
        self.assertEqual(counted(4, [100]), 0)
        self.assertEqual(lost(4, [100]), [])
        self.assertEqual(shown(4, [0]), [0])

    def test_equal_looks(self):
        self.assertEqual(shown(4, [17, 17, 17]), [1, 1, 1])
        self.assertEqual(counted(4, [17, 17, 17]), 0)
        self.assertEqual(lost(4, [17, 17, 17]), [])

    def test_gaps_about_a_whole_wrap(self):
        for gap, count, missing in [(15, 15, 0), (16, 0, 16), (17, 1, 16), (31, 15, 16), (32, 0, 32), (33, 1, 32)]:
            for first in (0, 1, 9, 15, 16):
                self.assertEqual(counted(4, [first, first + gap]), count)
                self.assertEqual(lost(4, [first, first + gap]), [(1, missing)] if missing else [])

    def test_several_losses(self):
        looks = [2, 18, 20, 60, 60, 75, 1000]
        self.assertEqual(lost(4, looks), [(1, 16), (3, 32), (6, 912)])
        self.assertEqual(counted(4, looks), 38)

    def test_width_1(self):
        self.assertEqual(shown(1, [0, 1, 2, 5, 5]), [0, 1, 0, 1, 1])
        self.assertEqual(counted(1, [0, 1, 2, 5, 5]), 3)
        self.assertEqual(lost(1, [0, 1, 2, 5, 5]), [(3, 2)])

    def test_width_64(self):
        wrap = 2 ** 64
        self.assertEqual(shown(64, [5, wrap - 1, wrap, 3 * wrap + 7]), [5, wrap - 1, 0, 7])
        self.assertEqual(counted(64, [5, wrap - 1, wrap, 3 * wrap + 7]), wrap + 2)
        self.assertEqual(lost(64, [5, wrap - 1, wrap, 3 * wrap + 7]), [(3, 2 * wrap)])

    def test_far_cycles(self):
        looks = [0, FAR, FAR, FAR + 1]
        self.assertEqual(shown(10, looks), [0, 0, 0, 1])
        self.assertEqual(counted(10, looks), 1)
        self.assertEqual(lost(10, looks), [(1, FAR)])

    def test_against_the_words(self):
        chance = random.Random(3)
        for _ in range(300):
            width = chance.choice([1, 2, 5, 32, 63, 64])
            looks = some_looks(chance, chance.randrange(1, 12), width)
            values = called(self, shown, width, looks)
            self.assertEqual(values, [int(bin(look)[2:].zfill(64)[-width:], 2) for look in looks])
            counts = []
            for before, now in zip(values, values[1:]):
                counts.append(now - before if now >= before else now - before + 2 ** width)
            self.assertEqual(called(self, counted, width, looks), sum(counts))
            gaps = [now - before for before, now in zip(looks, looks[1:])]
            missing = [(k + 1, gap - count) for k, (gap, count) in enumerate(zip(gaps, counts)) if gap > count]
            self.assertEqual(called(self, lost, width, looks), missing)

    def test_many_looks(self):
        looks = [k * 10 ** 49 for k in range(300)]
        self.assertEqual(counted(64, looks) + sum(cycles for _, cycles in lost(64, looks)), looks[-1])

    def test_lists_are_new(self):
        looks = [3]
        answer = shown(4, looks)
        answer.append(1)
        self.assertEqual(looks, [3])
        self.assertEqual(shown(4, looks), [3])

    def test_wrong_arguments(self):
        for function in (shown, counted, lost):
            check_wrong(self, function, [4, [3, 18, 60]], [(NoWidth, WRONG_WIDTHS), (NoLooks, WRONG_LOOKS)])


class Histories(unittest.TestCase):
    def test_examples(self):
        self.assertEqual(called(self, least_history, 4, [3, 2, 12]), [3, 18, 28])
        self.assertEqual(called(self, histories_many, 4, [3, 2, 12], 60), 10)

    def test_values_at_both_ends(self):
        self.assertEqual(least_history(4, [0]), [0])
        self.assertEqual(least_history(4, [15, 0, 15, 15, 0]), [15, 16, 31, 31, 32])
        self.assertEqual(least_history(1, [1, 0, 0, 1]), [1, 2, 2, 3])
        top = 2 ** 64 - 1
        self.assertEqual(least_history(64, [top, 0, top, top - 1]), [top, top + 1, 2 * top + 1, 3 * top + 1])

    def test_last_at_the_edges(self):
        for last, many in [(0, 0), (27, 0), (28, 1), (43, 1), (44, 4), (59, 4), (60, 10), (76, 20)]:
            self.assertEqual(histories_many(4, [3, 2, 12], last), many)
        self.assertEqual(histories_many(4, [0], 0), 1)
        self.assertEqual(histories_many(4, [0], 16), 2)
        self.assertEqual(histories_many(4, [5], 4), 0)

    def test_far_last(self):
        self.assertEqual(histories_many(1, [1], 10 ** 50), 5 * 10 ** 49)
        pairs = 5 * 10 ** 49
        self.assertEqual(histories_many(1, [0, 0], 10 ** 50), (pairs + 1) * (pairs + 2) // 2)
        self.assertEqual(histories_many(64, [0, 0], 2 ** 64 * 10 ** 20), (10 ** 20 + 1) * (10 ** 20 + 2) // 2)

    def test_many_values(self):
        values = [k * 7 & 1 for k in range(300)]
        looks = least_history(1, values)
        self.assertEqual(looks, list(range(300)))
        self.assertEqual(histories_many(1, values, 299), 1)
        self.assertEqual(histories_many(1, values, 300), 1)
        self.assertEqual(histories_many(1, values, 301), 301)
        self.assertGreater(histories_many(1, values, 10 ** 52), 10 ** 300)

    def test_against_all_histories(self):
        for width, length, last in [(1, 1, 9), (1, 2, 9), (1, 3, 9), (2, 2, 13), (2, 3, 11), (3, 2, 20)]:
            for values in itertools.product(range(1 << width), repeat=length):
                found = all_histories(width, list(values), last)
                self.assertEqual(called(self, histories_many, width, list(values), last), len(found))
                least = called(self, least_history, width, list(values))
                if found:
                    self.assertEqual(least, [min(row) for row in zip(*found)])
                    self.assertEqual({counted(width, looks) for looks in found}, {counted(width, least)})
                else:
                    self.assertGreater(least[-1], last)

    def test_least_history_shows_the_values(self):
        chance = random.Random(4)
        for _ in range(200):
            width = chance.choice([1, 3, 16, 64])
            values = [chance.choice([0, 2 ** width - 1, chance.randrange(2 ** width)]) for _ in range(9)]
            looks = least_history(width, values)
            self.assertEqual(shown(width, looks), values)
            self.assertEqual(lost(width, looks), [])
            self.assertEqual(looks[0], values[0])

    def test_list_is_new(self):
        values = [3]
        least_history(4, values).append(1)
        self.assertEqual(values, [3])

    def test_wrong_arguments(self):
        wrong = [(NoWidth, WRONG_WIDTHS), (NoLooks, WRONG_VALUES), (NoCycle, WRONG_CYCLES)]
        check_wrong(self, histories_many, [4, [3, 2, 12], 60], wrong)
        check_wrong(self, least_history, [4, [3, 2, 12]], wrong[:2])

    def test_values_must_fit_the_width(self):
        for width in (1, 8, 63, 64):
            check_wrong(self, least_history, [width, [0]], [(NoWidth, [65]), (NoLooks, [[2 ** width]])])
            self.assertEqual(least_history(width, [2 ** width - 1]), [2 ** width - 1])


class Interface(unittest.TestCase):
    def test_names_and_parameters(self):
        wanted = {shown: "width looks", counted: "width looks", lost: "width looks",
                  least_history: "width values", histories_many: "width values last"}
        for function, names in wanted.items():
            self.assertEqual(list(inspect.signature(function).parameters), names.split())
            self.assertEqual(function.__module__, counters.__name__)

    def test_arguments_by_name(self):
        self.assertEqual(shown(looks=[3, 18, 60], width=4), [3, 2, 12])
        self.assertEqual(counted(looks=[3, 18, 60], width=4), 25)
        self.assertEqual(lost(looks=[3, 18, 60], width=4), [(2, 32)])
        self.assertEqual(least_history(values=[3, 2, 12], width=4), [3, 18, 28])
        self.assertEqual(histories_many(last=60, values=[3, 2, 12], width=4), 10)

    def test_kinds_of_values(self):
        self.assertIs(type(shown(4, [3])), list)
        self.assertIs(type(counted(4, [3])), int)
        self.assertIs(type(lost(4, [3, 60])), list)
        self.assertIs(type(lost(4, [3, 60])[0]), tuple)
        self.assertIs(type(least_history(4, [3])), list)
        self.assertIs(type(histories_many(4, [3], 2)), int)
