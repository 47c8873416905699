"""Turns in closed form: when the threads at some places of a queue run, also far away (points 2, 20 and 21)."""

import random
import unittest

from timekernel.queues import Share, ran_together, reach_together, shares_of, turned


def random_queue(dice, most):
    """A queue at count 0 whose present turn began some counts ago."""
    many = dice.randint(1, 6)
    quantum = dice.choice([None, 1, 2, dice.randint(1, most), dice.randint(1, most)])
    return (tuple(dice.sample(range(10), many)), quantum, 0 if quantum is None else -dice.randrange(quantum))


def runner(queue, count):
    return turned(queue, count)[0][0]


class Turns(unittest.TestCase):
    def test_turned(self):
        self.assertEqual(turned(((), 5, 0), 99), ((), 5, 0))
        self.assertEqual(turned(((4, 7), None, 0), 99), ((4, 7), None, 0))
        self.assertEqual([turned(((4, 7, 1), 5, 3), count) for count in (3, 7, 8, 12, 13, 18, 10 ** 50 * 15 + 9)], [
            ((4, 7, 1), 5, 3), ((4, 7, 1), 5, 3), ((7, 1, 4), 5, 8), ((7, 1, 4), 5, 8), ((1, 4, 7), 5, 13),
            ((4, 7, 1), 5, 18), ((7, 1, 4), 5, 10 ** 50 * 15 + 8)])

    def test_shares_against_every_count(self):
        dice = random.Random(1)
        owners = [k % 3 for k in range(10)]
        for _ in range(300):
            queue = random_queue(dice, 9)
            shares = dict(shares_of(queue, 0, owners))
            ran = {clock: 0 for clock in shares}
            for count in range(60):
                for clock, share in shares.items():
                    self.assertEqual(share.ran(count), ran[clock], (queue, clock, count))
                thread = runner(queue, count)
                for clock in (("thread", thread), ("process", owners[thread])):
                    ran[clock] += 1
                    self.assertEqual(shares[clock].reach(ran[clock]), count + 1, (queue, clock, count))

    def test_empty_queues_have_no_shares(self):
        self.assertEqual([shares_of(((), quantum, 0), 5, []) for quantum in (None, 1, 7)], [[], [], []])
        self.assertEqual([clock for clock, _ in shares_of(((2, 1), None, 0), 5, [0, 0, 0])],
                         [("thread", 2), ("process", 0)])


class Together(unittest.TestCase):
    def test_none(self):
        self.assertIsNone(reach_together([], 1))
        self.assertEqual(ran_together([], 9), 0)

    def test_the_least_number_of_counts(self):
        dice = random.Random(2)
        for k in range(1500):
            most = dice.choice([1, 3, 50, 10 ** 6, 10 ** 20, 10 ** 59])
            wanted = dice.choice([1, 2, dice.randint(1, 60), dice.randint(1, 10 ** 6), dice.randint(1, 10 ** 52)])
            shares = []
            for _ in range(dice.randint(1, 8)):
                many = dice.randint(1, 5)
                quantum = dice.randint(1, most)
                places = sorted(dice.sample(range(many), dice.randint(1, many)))
                shares.append(Share(places, many, quantum, dice.randrange(quantum)))
            counts = reach_together(shares, wanted)
            self.assertGreaterEqual(ran_together(shares, counts), wanted)
            self.assertLess(ran_together(shares, counts - 1), wanted)
