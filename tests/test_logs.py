"""Points 26 to 29: logs that are replayed, with other looks, as short as possible, and as texts."""

import bisect
import inspect
import itertools
import random
import unittest

from tests.rows import a_call
from tests.search import View, made, random_kernel, random_log_kernel, row_apart
from tests.support import NOT_INTEGERS, NOT_LISTS, OTHER_OBJECTS, called, check_wrong, is_raised
from timekernel import errors, logs
from timekernel.compare import alike_from_now
from timekernel.kernel import Kernel
from timekernel.logs import read_log, replayed, shortest, show_log, with_looks

FAR = 10 ** 50
# One row of each call.
ROWS = [
    ("look", 0), ("read", 0, "real"), ("set_rate", 0, 5), ("set_real", 1, -3), ("slew", 1, 3, 1),
    ("put", 2, "real", 100, 0, None, False), ("put", 2, "boot", 90, 3, 7, False), ("drop", 2, 0), ("expired", 2, 0),
    ("take", 2), ("put_tick", 2, 0, 70), ("hand_over", 2, 0, 1), ("process", 3), ("thread", 3, 0), ("thread", 3, 0),
    ("run", 3, 0, [1, 0], None), ("run", 3, 0, [1], 4), ("join", 3, 0, 0), ("read", 4, ("thread", 1)),
    ("leave", 4, 0), ("sleep", 4, 1, 1), ("limit", 4, 0, None), ("limit", 4, 0, 9), ("running", 4, 0),
    ("waiting", 4, 1), ("sampled", 4, 1), ("stop", 5, 7), ("go", 8), ("look", 5)]
ANSWERS = [
    None, 0, None, None, None, 0, 1, None, 0, [], 2, [2], 0, 0, 1, None, None, None, 1, None, None, None, None, None, [],
    0, None, None, None]
MANY = {"look": 1, "read": 2, "set_rate": 2, "set_real": 2, "slew": 3, "stop": 2, "go": 1, "put": 6, "drop": 2,
        "expired": 2, "take": 1, "put_tick": 3, "hand_over": 3, "process": 1, "thread": 2, "run": 4, "join": 3,
        "leave": 2, "sleep": 3, "limit": 3, "running": 2, "waiting": 2, "sampled": 2}
NOT_ROWS = [
    (), [], ["look", 5], "look 5", None, 5, ("look",), ("look", 5, 6), ("Look", 5), ("count",), ("missed",), ("twin",),
    ("log",), ("moved", 8, (3, 1)), ("when", "real", 5), ("due", 0), ("alarm",), ("windows",), ("plan", 5),
    ("reading_at", "real", 0), ("runs", "real", 0), ("__init__", 8, (3, 1)), ("state",), ("_begun", 5), (5,), (None, 5),
    ([], 5), ({}, 5), (b"look", 5), (("look",), 5), ("put", 5, "real", 9), ("put", 5, "real", 9, 0, None),
    ("run", 5, 0, []), ("go",), ("go", 5, 6), ("look", 5, {}), ("", 5), ("look ", 5)]
NOT_LOGS = NOT_LISTS + [[row] for row in NOT_ROWS] + [[("look", 0), row, ("look", 9)] for row in NOT_ROWS]
# Rows that are such calls, but whose cycles, stops or goes are out of order.
OUT_OF_ORDER = [
    *[[("look", at)] for at in NOT_INTEGERS + [-1]], [("take", 5), ("take", 4)], [("look", 5), ("go", 5)], [("go", 5)],
    [("stop", 5, 0), ("look", 5)], [("stop", 5, 0), ("stop", 5, 0)], [("stop", 5, 0), ("look", 5), ("go", 5)],
    [("stop", 5, 0), ("go", 0), ("go", 0)], [("stop", 5, 0), ("go", 0), ("look", 4)], [("stop", None, 0), ("go", 0)],
    [("look", True)], [("put", 3, "real", 5, 0, None, False), ("put_tick", 2, 0, 1)]]
NOT_LOOKS = NOT_LISTS + [[look] for look in NOT_INTEGERS + [-1, -FAR]] + [[5, 4], [3, 5, 4], [0, True], [5, None], [5, -1]]


def new_kernel():
    return Kernel(16, (4, 2), processors=2, tick=5, base=3, levels=["stack", "queue"], coarse=2)


def stopped_kernel():
    """A kernel with clocks and timers that has stopped and gone on twice and is stopped, and what its calls returned."""
    kernel = Kernel(32, (2, 0), tick=10, coarse=3)
    direct = [
        kernel.put(0, "boot", 40, slack=3), kernel.put(0, "real", 30, period=20), kernel.put(0, "steady", 20),
        kernel.put(0, "real", 25, fragile=True), kernel.put_tick(0, 0, 2), kernel.process(0), kernel.thread(0, 0),
        kernel.thread(0, 0), kernel.run(0, 0, [0, 1], quantum=4), kernel.put(0, ("thread", 1), 6), kernel.slew(1, 8, 1),
        kernel.read(5, "real"), kernel.stop(5, 7), kernel.go(12), kernel.read(5, "real"), kernel.read(5, "boot"),
        kernel.read(5, "steady"), kernel.take(5), kernel.read(6, "real"), kernel.waiting(6, 0),
        kernel.read(6, ("thread", 1)), kernel.expired(6, 1), kernel.stop(7, 0), kernel.go(0), kernel.take(13),
        kernel.sampled(13, 0), kernel.read(13, "real"), kernel.stop(13, 4)]
    return kernel, direct


def cycles_of(log):
    """The cycles of the rows; a `go` is made at that of its stop."""
    cycles = []
    for row in log:
        cycles.append(cycles[-1] if row[0] == "go" else row[1])
    return cycles


def in_order(log, looks):
    """The rows with looks put in, look by look."""
    rows = list(log)
    for look in reversed(looks):
        places = [place for place, row in enumerate(rows) if row[0] != "go" and row[1] >= look]
        rows.insert(places[0] if places else len(rows), ("look", look))
    return rows


class Replayed(unittest.TestCase):
    def test_all_calls(self):
        kernel = new_kernel()
        before = (kernel.log(), kernel.last())
        other, answers = called(self, lambda log: replayed(kernel, log), ROWS)
        self.assertEqual((answers, other.log()), (ANSWERS, ROWS))
        self.assertIs(type(other), Kernel)
        self.assertEqual((kernel.log(), kernel.last()), before)
        again, answers = replayed(other, other.log())
        self.assertEqual(answers, ANSWERS)
        self.assertIs(alike_from_now(other, again), True)

    def test_the_interface(self):
        for name, words in (("replayed", "(kernel, log)"), ("with_looks", "(log, looks)"), ("shortest", "(width, log)"),
                            ("show_log", "(log)"), ("read_log", "(text)")):
            self.assertEqual(str(inspect.signature(getattr(logs, name))), words)
            self.assertEqual(getattr(logs, name).__module__, "timekernel.logs")
        answer = replayed(log=[("look", 3)], kernel=new_kernel())
        self.assertEqual([type(answer), answer[1], with_looks(looks=[1], log=[]), shortest(log=[], width=8),
                          show_log(log=[]), read_log(text="look 1")], [tuple, [None], [("look", 1)], [], "", [("look", 1)]])

    def test_the_number_of_arguments_of_each_call(self):
        for name, many in MANY.items():
            words = list(inspect.signature(getattr(Kernel, name)).parameters)
            self.assertEqual(len(words), many + 1, name)
            kernel = new_kernel()
            if name == "go":
                kernel.stop(0, 0)
            for wrong in (many - 1, many + 1):
                is_raised(self, errors.NoCall, replayed, [kernel, [(name, *[0] * wrong)]])

    def test_the_arguments_of_the_kernel(self):
        kernel = new_kernel()
        kernel.set_rate(5, 9)
        kernel.stop(9, 0)
        other, answers = replayed(kernel, [])
        self.assertEqual([answers, other.log(), other.last(), other.read(7, "boot")], [[], [], 0, 7])
        self.assertIs(alike_from_now(replayed(kernel, [])[0], new_kernel()), True)
        other.put(7, "real", 9, slack=4)
        self.assertEqual(replayed(kernel, other.log())[0].windows(), [(9, 13, 0)])

    def test_a_moved_kernel(self):
        kernel = new_kernel()
        kernel.set_real(5, 9)
        moved = kernel.moved(8, (3, 1))
        moved.set_rate(5, 7)
        other, answers = replayed(moved, [("read", 5, "real"), ("look", 300)])
        self.assertEqual([answers, other.count()], [[7, None], 44])
        plain = Kernel(8, (3, 1), processors=2, tick=5, base=3, levels=["stack", "queue"], coarse=2)
        self.assertIs(alike_from_now(replayed(moved, [])[0], plain), True)
        again, _ = replayed(moved.moved(9, (3, 1)), [("look", 300)])
        self.assertEqual(again.count(), 300)

    def test_random_kernels(self):
        for seed in range(150):
            dice = random.Random(30000 + seed)
            kernel = random_log_kernel(dice)
            log = kernel.log()
            other, answers = replayed(kernel, log)
            self.assertIs(alike_from_now(kernel, other), True)
            self.assertEqual([other.log(), len(answers)], [log, len(log)])
            for clock in ("steady", "real", "boot"):
                self.assertEqual([other.reading_at(clock, count) for count in range(other.count() + 1)],
                                 [kernel.reading_at(clock, count) for count in range(other.count() + 1)])
            third, same = replayed(other, log)
            self.assertEqual(same, answers)
            third.twin()

    def test_stops_with_clocks_and_timers(self):
        """A log with stops answers as the calls did when they were made directly, also with looks put in or left out."""
        kernel, direct = stopped_kernel()
        log = kernel.log()
        self.assertEqual([row for row in log if row[0] in ("stop", "go")],
                         [("stop", 5, 7), ("go", 12), ("stop", 7, 0), ("go", 0), ("stop", 13, 4)])
        # At the first `go` boot and real grow by 15, and timer 3 expires.
        self.assertEqual(direct, [
            0, 1, 2, 3, 4, 0, 0, 1, None, 5, None, 14, None, None, 29, 25, 10, [(5, 3, 1)], 32, [1, 0], 4, 1, None, None,
            [(6, 1, 1), (7, 5, 1), (10, 2, 1), (10, 4, 1), (13, 0, 1)], 1, 49, None])
        for rows in (log, read_log(show_log(log)), with_looks(log, [3, 5, 6, 9, 13]), shortest(32, log)):
            other, answers = replayed(kernel, rows)
            passive = logs.PASSIVE if len(rows) < len(log) else ("look",)
            self.assertEqual([answer for answer, row in zip(answers, rows) if row[0] not in passive],
                             [answer for answer, row in zip(direct, log) if row[0] not in passive])
            self.assertEqual(other.log(), rows)
            self.assertIs(alike_from_now(kernel, other), True)
            is_raised(self, errors.Stopped, other.look, [13])
            self.assertEqual([other.alarm(), other.go(6), other.take(13), other.due(1)], [4, None, [(13, 1, 1)], 70])

    def test_the_arguments_of_a_stop(self):
        """They are checked by the method itself, in the order of its signature."""
        check_wrong(self, lambda at, reading: replayed(new_kernel(), [("look", 5), ("stop", at, reading)]), [5, 0],
                    [(errors.NoCycle, NOT_INTEGERS + [-1, 4]), (errors.NoReading, NOT_INTEGERS + [-1])])

    def test_random_answers(self):
        stops = 0
        for seed in range(150):
            dice = random.Random(37000 + seed)
            kernel = random_kernel(dice)
            begun = len(kernel.log())
            outcomes = [made(kernel, a_call(dice, View(kernel), 9)) for _ in range(40)]
            direct = [answer for word, answer in outcomes if word == "returns"]
            self.assertEqual(replayed(kernel, kernel.log())[1][begun:], direct)
            stops += [row[0] for row in kernel.log()].count("stop")
        self.assertGreater(stops, 50)

    def test_answers_are_new(self):
        log = [("process", 0), ("thread", 0, 0), ("run", 0, 0, [0], None), ("waiting", 0, 0)]
        kernel, answers = replayed(new_kernel(), log)
        answers[3].append(9)
        log[2][3].append(9)
        self.assertEqual([kernel.waiting(0, 0), kernel.log()[2]], [[0], ("run", 0, 0, [0], None)])
        answers.clear()
        self.assertEqual(kernel.log()[3], ("waiting", 0, 0))

    def test_errors_of_the_calls(self):
        kernel = new_kernel()
        for rows, error in (
                ([("look", 5), ("look", 4)], errors.NoCycle), ([("look", None)], errors.NoCycle),
                ([("read", 5, {})], errors.NoClock), ([("go", 5)], errors.NotStopped),
                ([("stop", 5, 3), ("look", 5)], errors.Stopped), ([("stop", 5, 3), ("go", 2)], errors.NoReading),
                ([("put", 5, "boot", 9, 0, None, True)], errors.NoFragile), ([("put", 5, "boot", 9, 0, 0, 1)], errors.NoPeriod),
                ([("run", 5, 0, (), None)], errors.NoThread), ([("run", 5, 0, [], 0)], errors.NoQuantum),
                ([("drop", 5, 0)], errors.NoTimer), ([("join", 5, 0, 0)], errors.NoThread),
                ([("set_rate", 0, 0), ("look", [])], errors.NoRate), ([("thread", 0, 0)], errors.NoProcess)):
            is_raised(self, error, replayed, [kernel, rows])
        self.assertEqual(kernel.log(), [])

    def test_wrong(self):
        kernel = new_kernel()
        others = [thing for thing in OTHER_OBJECTS if not isinstance(thing, Kernel)] + [0, [], ROWS, ("look", 5), [kernel]]
        check_wrong(self, replayed, [kernel, ROWS], [(errors.NoKernel, others), (errors.NoCall, NOT_LOGS)])
        # All rows are looked at ahead of all calls.
        is_raised(self, errors.NoCall, replayed, [kernel, [("look", -1), ("look",)]])
        is_raised(self, errors.NoCycle, replayed, [kernel, [("look", -1), ("look", 5)]])


class WithLooks(unittest.TestCase):
    def test_places(self):
        log = [("take", 3), ("take", 3), ("take", 7)]
        self.assertEqual(called(self, with_looks, log, [0, 3, 3, 4, 7, 8, 9]), [
            ("look", 0), ("look", 3), ("look", 3), ("take", 3), ("take", 3), ("look", 4), ("look", 7), ("take", 7),
            ("look", 8), ("look", 9)])
        self.assertEqual(with_looks([], [5, 5]), [("look", 5), ("look", 5)])
        self.assertEqual(with_looks(log, []), log)
        self.assertEqual(with_looks([], []), [])
        self.assertEqual(with_looks([("look", 5)], [5]), [("look", 5), ("look", 5)])

    def test_stops(self):
        log = [("stop", 5, 0), ("go", 4), ("take", 5), ("stop", 9, 0), ("go", 0)]
        self.assertEqual(with_looks(log, [4, 5, 6, 9, 10]), [
            ("look", 4), ("look", 5), ("stop", 5, 0), ("go", 4), ("take", 5), ("look", 6), ("look", 9), ("stop", 9, 0),
            ("go", 0), ("look", 10)])
        # What `go` is given is not looked at.
        self.assertEqual(with_looks([("stop", 5, []), ("go", {}), ("take", 6)], [6]),
                         [("stop", 5, []), ("go", {}), ("look", 6), ("take", 6)])

    def test_a_stop_without_a_go(self):
        log = [("take", 3), ("stop", 5, 0)]
        self.assertEqual(with_looks(log, [5, 5]), [("take", 3), ("look", 5), ("look", 5), ("stop", 5, 0)])
        for looks in ([6], [2, 6], [5, FAR]):
            is_raised(self, errors.NoLooks, with_looks, [log, looks])
        self.assertEqual(with_looks(log + [("go", 0)], [6]), log + [("go", 0), ("look", 6)])
        self.assertEqual(with_looks(log, []), log)

    def test_lists_are_new(self):
        log = [("run", 0, 0, [1], None)]
        for rows in (with_looks(log, [0]), shortest(8, log)):
            rows[-1][3].append(2)
            rows.clear()
        self.assertEqual(log, [("run", 0, 0, [1], None)])

    def test_random_logs(self):
        for seed in range(300):
            dice = random.Random(31000 + seed)
            log = random_log_kernel(dice, 25).log()
            if log and log[-1][0] == "stop":
                log.append(("go", log[-1][2]))
            last = max([row[1] for row in log if row[0] != "go"], default=0)
            looks = sorted(dice.randint(0, last + 3) for _ in range(dice.randint(0, 20)))
            self.assertEqual(called(self, with_looks, log, looks), in_order(log, looks))

    def test_results_do_not_change(self):
        told = 0
        for seed in range(200):
            dice = random.Random(32000 + seed)
            kernel = random_log_kernel(dice, 30, 3)
            log = kernel.log()
            cycles = cycles_of(log)
            gaps = [after - before for before, after in itertools.pairwise([0, *cycles])]
            if max(gaps, default=0) >= 1 << kernel.state.settings.width:
                continue
            looks = sorted(dice.randint(0, kernel.last()) for _ in range(dice.randint(0, 30)))
            other, answers = replayed(kernel, with_looks(log, looks))
            # Each row stands behind all looks up to its cycle.
            places = [place + bisect.bisect_right(looks, cycle) for place, cycle in enumerate(cycles)]
            self.assertEqual([answers[place] for place in places], replayed(kernel, log)[1])
            self.assertIs(alike_from_now(kernel, other), True)
            self.assertIsNone(row_apart(dice, kernel, other, 1))
            told += 1
        self.assertGreater(told, 100)

    def test_wrong(self):
        log = [("take", 3), ("stop", 5, 0)]
        check_wrong(self, with_looks, [log, [2]], [(errors.NoCall, NOT_LOGS + OUT_OF_ORDER), (errors.NoLooks, NOT_LOOKS + [[6]])])


def counts_of(width, log):
    """The count that each row finds."""
    counts, count, before = [], 0, 0
    for cycle in cycles_of(log):
        count += (cycle - before) % 2 ** width
        counts.append(count)
        before = cycle
    return counts


def fewest_looks(width, gap, counts):
    """The least number of looks within so many cycles with which so many counts are found, or None."""
    least = {(0, 0): 0}
    for cycle in range(1, gap + 1):
        for many, (before, found) in enumerate(sorted(least)):
            place = (cycle, found + (cycle - before) % 2 ** width)
            least[place] = min(least.get(place, FAR), least[before, found] + 1)
    # The last one is no look, but the row; looks at the cycle of a row count nothing.
    return 0 if counts == gap % 2 ** width else least[gap, counts] - 1


class Shortest(unittest.TestCase):
    def test_example(self):
        log = [("look", 5), ("look", 20), ("read", 36, "steady"), ("set_rate", 40, 3)]
        self.assertEqual(called(self, shortest, 4, log), [("look", 31), ("set_rate", 40, 3)])

    def test_by_hand(self):
        self.assertEqual(shortest(4, []), [])
        self.assertEqual(shortest(4, [("read", 0, "real"), ("look", 0)]), [])
        self.assertEqual(shortest(4, [("read", 9, "real")]), [("look", 9)])
        self.assertEqual(shortest(4, [("take", 9), ("look", 9), ("waiting", 9, 0)]), [("take", 9)])
        self.assertEqual(shortest(4, [("take", 9), ("look", 9), ("waiting", 10, 0)]), [("take", 9), ("look", 10)])
        # Whole wraps that were missed stay missed, also at the end.
        self.assertEqual(shortest(4, [("take", 9), ("expired", 25, 0)]), [("take", 9), ("look", 25)])
        self.assertEqual(shortest(4, [("look", 7), ("running", 23, 0), ("take", 40)]), [("take", 40)])
        self.assertEqual(shortest(4, [("look", 10), ("running", 20, 0), ("take", 30)]), [("look", 15), ("take", 30)])
        self.assertEqual(shortest(4, [("look", 10), ("running", 20, 0), ("take", 31)]),
                         [("look", 15), ("look", 30), ("take", 31)])
        self.assertEqual(shortest(4, [("look", 10), ("sampled", 20, 0), ("take", 62)]), [("look", 47), ("take", 62)])
        self.assertEqual(shortest(1, [("look", 1), ("look", 2), ("look", 5)]), [("look", 3), ("look", 4), ("look", 5)])

    def test_stop_and_go(self):
        log = [("look", 10), ("stop", 20, 3), ("go", 5), ("look", 20), ("look", 30), ("look", 40), ("stop", 40, 1)]
        self.assertEqual(shortest(4, log), [
            ("look", 15), ("stop", 20, 3), ("go", 5), ("look", 35), ("stop", 40, 1)])
        self.assertEqual(shortest(4, [("look", 10), ("stop", 20, 3), ("go", 5), ("read", 20, "real")]),
                         [("look", 15), ("stop", 20, 3), ("go", 5)])
        self.assertEqual(shortest(4, [("stop", 20, 3), ("go", 5), ("read", 21, "real")]),
                         [("stop", 20, 3), ("go", 5), ("look", 21)])

    def test_far(self):
        wrap = 2 ** 64
        log = [("look", wrap - 1), ("look", FAR * wrap - 1), ("look", (FAR + 1) * wrap - 2), ("process", (FAR + 1) * wrap)]
        # The looks count a whole wrap less 1, 0, a whole wrap less 1, and 2.
        self.assertEqual(counts_of(64, log), [wrap - 1, wrap - 1, 2 * wrap - 2, 2 * wrap])
        first = (FAR + 1) * wrap - 2 * wrap + wrap - 1
        self.assertEqual(shortest(64, log), [("look", first), ("look", first + wrap - 1), ("process", (FAR + 1) * wrap)])

    def test_all_rows_that_change_nothing(self):
        kept = [row for row in ROWS if row[0] not in ("look", "read", "expired", "running", "waiting", "sampled")]
        self.assertEqual(shortest(16, ROWS), kept)
        self.assertEqual(len(kept), len(ROWS) - 9 + 1)

    def test_fewest_rows(self):
        for seed in range(250):
            dice = random.Random(33000 + seed)
            width = dice.randint(1, 3)
            at, log = 0, []
            for _ in range(dice.randint(1, 12)):
                at += dice.choice([0, 1, 1, 2, 3, 4, dice.randint(0, 9)])
                log.append(dice.choice([("look", at), ("look", at), ("read", at, "real"), ("take", at)]))
            found = called(self, shortest, width, log)
            self.check_counts(width, log, found)
            cycles, counts = cycles_of(log), counts_of(width, log)
            ends = [(0, 0)] + [(cycle, count) for cycle, count, row in zip(cycles, counts, log) if row[0] == "take"]
            least = len(ends) - 1
            if cycles[-1] > ends[-1][0]:
                ends.append((cycles[-1], counts[-1]))
                least += 1
            for (begin, before), (end, count) in itertools.pairwise(ends):
                least += fewest_looks(width, end - begin, count - before)
            self.assertEqual(len(found), least, (width, log))

    def check_counts(self, width, log, found):
        """The rows that are kept find the same counts, and the last row does."""
        kept = [(count, row) for count, row in zip(counts_of(width, log), log) if row[0] not in logs.PASSIVE]
        again = [(count, row) for count, row in zip(counts_of(width, found), found) if row[0] != "look"]
        self.assertEqual(again, kept)
        self.assertEqual([cycles_of(found)[-1:], counts_of(width, found)[-1:]] if found else [[0], [0]],
                         [cycles_of(log)[-1:], counts_of(width, log)[-1:]])
        self.assertEqual(shortest(width, found), found)

    def test_random_logs(self):
        for seed in range(150):
            dice = random.Random(34000 + seed)
            kernel = random_log_kernel(dice, 40)
            width, log = kernel.state.settings.width, kernel.log()
            if not log:
                continue
            found = called(self, shortest, width, log)
            self.check_counts(width, log, found)
            self.assertLessEqual(len(found), len(log))
            other, answers = replayed(kernel, found)
            self.assertEqual([other.count(), other.last()], [kernel.count(), kernel.last()])
            self.assertIs(alike_from_now(kernel, other), True)
            given = [answer for answer, row in zip(replayed(kernel, log)[1], log) if row[0] not in logs.PASSIVE]
            self.assertEqual([answer for answer, row in zip(answers, found) if row[0] != "look"], given)

    def test_wrong(self):
        check_wrong(self, shortest, [4, ROWS], [(errors.NoWidth, NOT_INTEGERS + [0, 65, -1]),
                                                (errors.NoCall, NOT_LOGS + OUT_OF_ORDER)])


BIG = 10 ** 1000 - 1
# Words and the arguments that they stand for.
WORDS = {
    "0": 0, "7": 7, "-7": -7, "10": 10, "-120": -120, "none": None, "yes": True, "no": False, "steady": "steady",
    "real": "real", "boot": "boot", "thread:0": ("thread", 0), "thread:3": ("thread", 3), "process:0": ("process", 0),
    "process:120": ("process", 120), "[]": [], "[1]": [1], "[1,2,3]": [1, 2, 3], "[-5,0]": [-5, 0],
    "9" * 1000: BIG, "-" + "9" * 1000: -BIG, "1" + "0" * 999: 10 ** 999, "thread:" + "9" * 1000: ("thread", BIG),
    "[" + "9" * 1000 + ",1]": [BIG, 1]}
NOT_WORDS = [
    "", "00", "01", "-0", "-01", "+1", "--1", "- 1", "1_0", "1.0", "1e3", "0x1", "None", "True", "Yes", "NO", "null",
    "Steady", "thread", "thread:", "thread:-1", "thread:-0", "thread:03", "thread:+3", "thread: 3", "thread:3:4", "Thread:3",
    "process:x", "real:0", "boot:", ":", ":3", "[", "]", "[,]", "[1,]", "[,1]", "[1,,2]", "[1;2]", "[ ]", "[01]", "[-0]",
    "[none]", "[yes]", "[[1]]", "[[]]", "[thread:3]", "[1", "1]", "(1,2)", "()", "'real'", "5\t", "\t5", "5\r", "5\x0b", "5,",
    "\u0665", "\u00b2", "\uff15", "5\u00a0", "-\u0665", "[\u0665]", "thread:\u0665", "\U0001d7d3", "look", "\x005", "5\x00",
    "1" + "0" * 1000, "-1" + "0" * 1000, "9" * 4301, "9" * 9000, "thread:1" + "0" * 1000, "[1" + "0" * 1000 + "]", "0" * 1001]
NOT_WRITTEN = [
    1.0, "", "5", "Real", "none", "thread:3", b"real", (), ("thread",), ("thread", 3, 4), ("thread", -1), ("thread", True),
    ("thread", "3"), ("thread", None), ("Thread", 3), ("real", 3), (3, "thread"), ([], 3), ({}, 3), (1, 2), [None], [True], [[]],
    [1.0], ["real"], [("thread", 3)], [1, "2"], {}, {1: 2}, set(), {1}, object(), Kernel(8, (3, 1)), Kernel, errors.NoRow("x", 3),
    float("nan"), range(3), 10 ** 1000, -10 ** 1000, 10 ** 4299, ("thread", 10 ** 1000), [1, 10 ** 1000]]
# Python itself does not show these.
TOO_LONG = [10 ** 4301, -10 ** 9000, ("process", 10 ** 9000), [10 ** 6000]]


class Texts(unittest.TestCase):
    def test_examples(self):
        self.assertEqual(show_log([("put", 5, "real", 100, 0, None, False)]), "put 5 real 100 0 none no")
        self.row(1, "look 5\nlook x")

    def row(self, line, text):
        with self.assertRaises(errors.KernelError, msg=repr(text)[:200]) as caught:
            read_log(text)
        self.assertIs(type(caught.exception), errors.NoRow)
        self.assertEqual(caught.exception.line, line, repr(text)[:200])

    def test_all_calls(self):
        text = called(self, show_log, ROWS)
        self.assertEqual(text.split("\n")[:6] + text.split("\n")[15:19] + text.split("\n")[-3:], [
            "look 0", "read 0 real", "set_rate 0 5", "set_real 1 -3", "slew 1 3 1", "put 2 real 100 0 none no",
            "run 3 0 [1,0] none", "run 3 0 [1] 4", "join 3 0 0", "read 4 thread:1", "stop 5 7", "go 8", "look 5"])
        self.assertEqual(read_log(text), ROWS)
        self.assertEqual([type(row) for row in read_log(text)], [tuple] * len(ROWS))
        other, answers = replayed(new_kernel(), read_log(text))
        self.assertEqual((answers, other.log()), (ANSWERS, ROWS))

    def test_words_at_any_place(self):
        for word, part in WORDS.items():
            for log, text in (([("look", part)], "look " + word), ([("go", part)], "go " + word),
                              ([("read", 5, part), ("slew", part, part, part)], f"read 5 {word}\nslew {word} {word} {word}")):
                self.assertEqual(called(self, show_log, log), text)
                found = read_log(text)
                self.assertEqual([[*map(type, row)] for row in found], [[*map(type, row)] for row in log])
                self.assertEqual(found, log)

    def test_what_is_not_the_line_of_a_row(self):
        for word in NOT_WORDS:
            self.row(0, "look " + word)
            self.row(2, f"look 5\ntake 6\nslew 5 {word} 4\nlook x")
        for line in ("", " ", "look", "look ", " look 5", "look 5 ", "look  5", "look 5 6", "look\t5", "Look 5", "5", "look,5",
                     "put 5 real 100 0 none", "put 5 real 100 0 none no no", "log", "count", "twin", "due 5", "alarm", "none",
                     "go", "go 1 2", "run 5 0 [1, 2] none", "run 5 0 [] none ", "look 5\r", "look\x0b5", "look 5\x0clook 6",
                     "look 5\x85look 6", "look 5\u2028look 6", "look 5;look 6", "__init__ 5", "\ufefflook 5", "look(5)"):
            if line:
                self.row(0, line)
            self.row(1, f"look 5\n{line}")
            self.row(1, f"look 5\n{line}\nlook 6")
            self.row(0, f"{line}\nlook 5")
        self.row(1, "look 5\n")
        self.row(0, "\n")
        self.row(0, "\n\n")
        self.row(0, "\nlook 5")
        self.row(1499, "look 5\n" * 1499)

    def test_what_is_no_text(self):
        for thing in NOT_LISTS + [[], ROWS, ["look 5"], b"look 5"]:
            if not isinstance(thing, str):
                self.row(0, thing)

    def test_empty_logs(self):
        self.assertEqual([show_log([]), read_log("")], ["", []])

    def test_what_cannot_be_written(self):
        for thing in NOT_WRITTEN:
            for log in ([("look", thing)], [("look", 5), ("put", 5, thing, 100, 0, None, False)], [("go", thing)]):
                is_raised(self, errors.NoCall, show_log, [log])
        for thing in TOO_LONG:
            with self.assertRaises(errors.NoCall):
                show_log([("look", 5), ("look", thing)])
        for thing in NOT_LOGS:
            is_raised(self, errors.NoCall, show_log, [thing])

    def test_no_order_is_asked_for(self):
        log = [("go", 5), ("look", 9), ("look", 3), ("stop", -1, None), ("stop", None, 0)]
        self.assertEqual(read_log(show_log(log)), log)

    def test_random_logs(self):
        for seed in range(150):
            dice = random.Random(35000 + seed)
            log = random_log_kernel(dice, 30).log()
            text = show_log(log)
            self.assertEqual([read_log(text), show_log(read_log(text))], [log, text])

    def test_each_log_has_one_text(self):
        """A text that can be read is the text of its log, whatever was done to it."""
        read = 0
        for seed in range(4000):
            dice = random.Random(36000 + seed)
            signs = list(show_log(dice.sample(ROWS, 2)))
            for _ in range(dice.randint(1, 3)):
                place = dice.randrange(len(signs))
                signs[place:place + dice.randint(0, 2)] = dice.choice(["", " ", "0", "1", "-", ",", "[", "]", ":", "\n", "\t", "n"])
            text = "".join(signs)
            try:
                log = read_log(text)
            except errors.NoRow as error:
                lines = text.split("\n")
                read_log("\n".join(lines[:error.line]))
                self.row(0, lines[error.line] or "\n")
            else:
                read += 1
                self.assertEqual(show_log(log), text)
        self.assertGreater(read, 60)


class Long(unittest.TestCase):
    def test_1500_rows(self):
        kernel = Kernel(64, (3, 1))
        for at in range(750):
            kernel.put(at * 10 ** 40, "steady", -at)
            kernel.look(at * 10 ** 40)
        log = kernel.log()
        self.assertEqual(len(log), 1500)
        self.assertEqual(read_log(show_log(log)), log)
        self.assertIs(alike_from_now(replayed(kernel, log)[0], kernel), True)
        looks = [at * 10 ** 38 for at in range(1500)]
        self.assertEqual(len(with_looks(log, looks)), 3000)
        self.assertEqual(shortest(64, log), log[::2])
