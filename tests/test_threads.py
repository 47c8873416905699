"""Points 20 to 22: processes, threads, turns, limits, sleepers and samples."""

import unittest

from tests.support import is_raised
from timekernel import errors
from timekernel.kernel import Kernel

FAR = 10 ** 15


def made(threads, processes=1, **more):
    """A kernel with threads, in turn for each process."""
    kernel = Kernel(60, more.pop("rate", (1, 0)), **more)
    for _ in range(processes):
        kernel.process(0)
    for thread in range(threads):
        kernel.thread(0, thread % processes)
    return kernel


def used(kernel, at, threads):
    return [kernel.read(at, ("thread", thread)) for thread in range(threads)]


class Queues(unittest.TestCase):
    def test_examples(self):
        kernel = made(2)
        self.assertIsNone(kernel.run(0, 0, [0, 1], quantum=3))
        self.assertEqual([kernel.read(7, ("thread", 0)), kernel.waiting(7, 0)], [4, [0, 1]])
        kernel = made(2)
        kernel.run(0, 0, [0, 1], quantum=3)
        self.assertIsNone(kernel.limit(0, 0, 5))
        self.assertEqual([kernel.read(9, ("process", 0)), kernel.waiting(9, 0)], [5, []])

    def test_numbers(self):
        kernel = Kernel(32, (1, 0))
        self.assertEqual([kernel.process(0), kernel.process(0), kernel.thread(1, 1), kernel.thread(2, 0)], [0, 1, 0, 1])
        self.assertEqual([kernel.running(2, 0), kernel.waiting(2, 0)], [None, []])

    def test_turns(self):
        kernel = made(3)
        kernel.run(0, 0, [2, 0, 1], quantum=4)
        self.assertEqual([kernel.running(at, 0) for at in range(14)], [2] * 4 + [0] * 4 + [1] * 4 + [2] * 2)
        self.assertEqual(kernel.waiting(25, 0), [2, 0, 1])
        self.assertEqual(kernel.waiting(28, 0), [0, 1, 2])
        self.assertEqual(used(kernel, 30, 3), [10, 8, 12])

    def test_a_turn_without_a_quantum_does_not_end(self):
        kernel = made(2)
        kernel.run(0, 0, [1, 0])
        self.assertEqual([kernel.running(FAR, 0), used(kernel, FAR, 2)], [1, [0, FAR]])
        kernel.leave(FAR, 1)
        self.assertEqual([kernel.waiting(FAR, 0), used(kernel, FAR + 5, 2)], [[0], [5, FAR]])

    def test_many_turns(self):
        kernel = made(3, 2, rate=(3, 1))
        kernel.run(0, 0, [0, 1, 2], quantum=7)
        at = 21 * FAR + 10
        self.assertEqual(kernel.waiting(at, 0), [1, 2, 0])
        self.assertEqual(used(kernel, at, 3), [3 * (7 * FAR + 7) // 2, 3 * (7 * FAR + 3) // 2, 21 * FAR // 2])
        self.assertEqual(kernel.read(at, ("process", 0)), 3 * (14 * FAR + 7) // 2)

    def test_one_thread_takes_turns_with_itself(self):
        kernel = made(2)
        kernel.run(0, 0, [0], quantum=5)
        kernel.join(12, 0, 1)
        # The turn that began at 10 goes on.
        self.assertEqual([kernel.waiting(14, 0), kernel.waiting(15, 0), kernel.waiting(20, 0)], [[0, 1], [1, 0], [0, 1]])

    def test_join_and_leave(self):
        kernel = made(4, processors=2)
        kernel.run(0, 0, [0, 1], quantum=10)
        kernel.join(3, 0, 2)
        kernel.leave(4, 1)
        # Others come and go; the turn of 0 ends at 10 all the same.
        self.assertEqual([kernel.waiting(9, 0), kernel.waiting(10, 0)], [[0, 2], [2, 0]])
        kernel.leave(13, 2)
        self.assertEqual([kernel.waiting(22, 0), kernel.waiting(23, 0)], [[0], [0]])
        kernel.join(23, 0, 3)
        self.assertEqual([kernel.waiting(32, 0), kernel.waiting(33, 0)], [[0, 3], [3, 0]])
        kernel.join(33, 1, 2)
        self.assertEqual([kernel.running(99, 1), kernel.waiting(99, 1)], [2, [2]])
        is_raised(self, errors.NoThread, kernel.join, [99, 0, 2])
        is_raised(self, errors.NoThread, kernel.leave, [99, 1])

    def test_a_queue_that_becomes_empty_keeps_its_quantum(self):
        kernel = made(3)
        kernel.run(0, 0, [0], quantum=4)
        kernel.leave(3, 0)
        kernel.join(5, 0, 1)
        kernel.join(5, 0, 2)
        self.assertEqual([kernel.waiting(8, 0), kernel.waiting(9, 0), kernel.waiting(13, 0)], [[1, 2], [2, 1], [1, 2]])
        kernel.run(13, 0, [], quantum=2)
        self.assertEqual([kernel.running(13, 0), used(kernel, 20, 3)], [None, [3, 4, 4]])
        kernel.join(21, 0, 1)
        kernel.join(21, 0, 0)
        self.assertEqual([kernel.waiting(22, 0), kernel.waiting(23, 0)], [[1, 0], [0, 1]])

    def test_run_anew(self):
        kernel = made(3)
        kernel.run(0, 0, [0, 1], quantum=4)
        kernel.run(3, 0, [0, 2], quantum=4)
        self.assertEqual([kernel.waiting(6, 0), kernel.waiting(7, 0)], [[0, 2], [2, 0]])
        kernel.run(8, 0, [2, 0])
        self.assertEqual([kernel.waiting(99, 0), used(kernel, 99, 3)], [[2, 0], [7, 0, 92]])
        kernel.join(99, 0, 1)

    def test_lists_are_copied(self):
        kernel = made(2)
        threads = [0, 1]
        kernel.run(0, 0, threads, quantum=2)
        threads.reverse()
        kernel.waiting(1, 0).clear()
        self.assertEqual(kernel.waiting(1, 0), [0, 1])
        kernel.log()[3][3].clear()
        self.assertEqual(kernel.log()[3], ("run", 0, 0, [0, 1], 2))

    def test_clocks_of_processes(self):
        kernel = made(4, 2, processors=3, rate=(5, 1))
        kernel.run(0, 0, [0, 1], quantum=2)
        kernel.run(0, 1, [2], quantum=3)
        self.assertEqual([kernel.read(at, ("process", 0)) for at in range(6)], [0, 5, 10, 12, 15, 20])
        self.assertEqual([kernel.read(at, ("process", 1)) for at in (5, 6, 7, 8)], [5, 5, 7, 10])
        # The first counts at which threads on two processors have used so much.
        self.assertEqual([kernel.when(("process", 0), reading) for reading in (30, 31, 35, 36)], [8, 9, 9, 10])


class Limits(unittest.TestCase):
    def test_limits(self):
        kernel = made(3, 2)
        kernel.run(0, 0, [0, 1, 2], quantum=3)
        kernel.limit(0, 0, 5)
        # Process 0 runs from 0 to 3 and, behind thread 1, from 6 on; it is over at 8.
        self.assertEqual([kernel.waiting(7, 0), kernel.waiting(8, 0)], [[2, 0, 1], [1]])
        self.assertEqual([kernel.read(20, ("process", 0)), used(kernel, 20, 3)], [5, [3, 15, 2]])
        for name, rest in (("thread", (20, 0)), ("limit", (20, 0, 9)), ("limit", (20, 0, None))):
            is_raised(self, errors.NoProcess, getattr(kernel, name), rest)
        for name, rest in (("join", (20, 0, 0)), ("run", (20, 0, [1, 0])), ("leave", (20, 0)), ("sleep", (20, 0, 0))):
            is_raised(self, errors.NoThread, getattr(kernel, name), rest)

    def test_limits_at_once(self):
        kernel = made(2, 2)
        kernel.run(0, 0, [0, 1])
        kernel.limit(4, 0, 4)
        self.assertEqual(kernel.waiting(4, 0), [1])
        kernel.limit(4, 1, 0)
        self.assertEqual([kernel.waiting(4, 0), used(kernel, 9, 2)], [[], [4, 0]])

    def test_no_limit(self):
        kernel = made(1)
        kernel.run(0, 0, [0])
        kernel.limit(0, 0, 5)
        kernel.limit(2, 0, None)
        self.assertEqual(kernel.read(9, ("process", 0)), 9)
        kernel.limit(9, 0, 12)
        kernel.limit(9, 0, 20)
        self.assertEqual(kernel.read(99, ("process", 0)), 20)

    def test_limits_jump_over_readings(self):
        kernel = made(2, processors=2, rate=(5, 1))
        kernel.run(0, 0, [0])
        kernel.run(0, 1, [1])
        kernel.limit(0, 0, 7)
        self.assertEqual([kernel.read(9, ("process", 0)), kernel.reading_at(("process", 0), 1)], [10, 5])

    def test_timers_on_what_is_over(self):
        kernel = made(1)
        kernel.run(0, 0, [0])
        kernel.put(0, ("thread", 0), 5)
        kernel.put(0, ("process", 0), 6)
        kernel.limit(0, 0, 5)
        self.assertEqual([kernel.take(9), kernel.timers(), kernel.windows()], [[(5, 0, 1)], [1], []])
        self.assertEqual([kernel.put(9, ("process", 0), 4, period=1), kernel.put(9, ("thread", 0), 9)], [2, 3])
        self.assertEqual([kernel.take(20), kernel.due(2)], [[(9, 2, 2)], 6])

    def test_a_limit_far_away(self):
        kernel = made(3, 3)
        kernel.run(0, 0, [0, 1, 2], quantum=7)
        kernel.limit(0, 1, 7 * FAR + 2)
        # Thread 1 has its last two counts behind FAR rounds; then 2 begins a turn at once.
        over = 21 * FAR + 9
        self.assertEqual(kernel.when(("thread", 1), 7 * FAR + 2), over)
        self.assertEqual([kernel.waiting(over - 1, 0), kernel.waiting(over, 0)], [[1, 2, 0], [2, 0]])
        self.assertEqual([kernel.waiting(over + 6, 0), kernel.waiting(over + 7, 0)], [[2, 0], [0, 2]])


class Sleepers(unittest.TestCase):
    def test_sleep(self):
        kernel = made(3, processors=2)
        kernel.run(0, 0, [0, 1], quantum=4)
        kernel.run(0, 1, [2])
        kernel.put(0, "steady", 9, period=20)
        kernel.sleep(1, 0, 0)
        self.assertEqual([kernel.waiting(1, 0), kernel.waiting(8, 0), kernel.waiting(9, 0)], [[1], [1], [1, 0]])
        # It wakes once; its timer goes on.
        kernel.leave(10, 0)
        self.assertEqual([kernel.waiting(40, 0), kernel.expired(40, 0)], [[1], 2])

    def test_into_an_empty_queue(self):
        kernel = made(2)
        kernel.run(0, 0, [0], quantum=5)
        kernel.put(0, "boot", 7)
        kernel.sleep(2, 0, 0)
        self.assertEqual([kernel.running(6, 0), kernel.running(7, 0)], [None, 0])
        kernel.join(8, 0, 1)
        self.assertEqual([kernel.waiting(11, 0), kernel.waiting(12, 0), used(kernel, 13, 2)], [[0, 1], [1, 0], [7, 1]])

    def test_several_sleepers_of_several_timers(self):
        kernel = made(4)
        kernel.run(0, 0, [3, 2, 1, 0])
        kernel.put(0, "steady", 9)
        kernel.put(0, "boot", 9)
        for thread, timer in ((3, 0), (2, 1), (1, 0), (0, 1)):
            kernel.sleep(1, thread, timer)
        self.assertEqual(kernel.waiting(9, 0), [1, 3, 0, 2])

    def test_those_that_sleep_on(self):
        kernel = made(3)
        kernel.run(0, 0, [0, 1, 2])
        kernel.put(0, "real", 9, fragile=True)
        kernel.put(0, "real", 9)
        kernel.sleep(0, 0, 0)
        kernel.sleep(0, 1, 1)
        kernel.set_real(3, 0)
        kernel.drop(4, 1)
        self.assertEqual(kernel.waiting(99, 0), [2])
        kernel.join(99, 0, 1)
        kernel.run(99, 0, [0, 1])
        self.assertEqual(kernel.waiting(99, 0), [0, 1])

    def test_those_that_are_woken_by_calls(self):
        kernel = made(3, processors=2)
        kernel.run(0, 0, [0, 1, 2])
        kernel.put(0, "steady", 9)
        for thread in (0, 1, 2):
            kernel.sleep(0, thread, 0)
        kernel.join(1, 1, 0)
        kernel.leave(2, 0)
        kernel.run(3, 1, [1])
        is_raised(self, errors.NoThread, kernel.leave, [3, 2])
        is_raised(self, errors.NoThread, kernel.sleep, [3, 2, 0])
        # 0 and 1 sleep no more; 2 sleeps on.
        self.assertEqual([kernel.waiting(9, 0), kernel.waiting(9, 1)], [[2], [1]])

    def test_a_sleep_ends_with_the_process(self):
        kernel = made(3, 2)
        kernel.run(0, 0, [0, 1, 2])
        kernel.put(0, "steady", 9)
        kernel.sleep(0, 0, 0)
        kernel.sleep(0, 1, 0)
        kernel.limit(0, 0, 9)
        # Process 0 is over at 9, ahead of the timer.
        self.assertEqual([kernel.waiting(9, 0), used(kernel, 9, 3)], [[1], [0, 0, 9]])

    def test_a_sleeper_on_its_own_clock(self):
        kernel = made(2)
        kernel.run(0, 0, [0, 1])
        kernel.put(0, ("process", 0), 5)
        kernel.put(0, ("thread", 1), 6)
        kernel.sleep(0, 0, 0)
        self.assertEqual(kernel.waiting(5, 0), [1, 0])
        kernel.sleep(5, 1, 1)
        self.assertEqual(kernel.waiting(FAR, 0), [0])

    def test_woken_between_two_calls(self):
        kernel = made(2, processors=2)
        kernel.run(0, 0, [0], quantum=3)
        kernel.run(0, 1, [1])
        for due in (4, 10, 16):
            kernel.put(0, "steady", due)
        kernel.put(0, ("thread", 0), 6)
        kernel.sleep(1, 0, 0)
        kernel.sleep(1, 1, 3)
        # 0 runs at 0 and from 4 on, so that 1 is woken at 9.
        self.assertEqual([used(kernel, 20, 2), kernel.reading_at(("thread", 1), 10)], [[17, 12], 2])


class Order(unittest.TestCase):
    def test_a_turn_ends_ahead_of_a_join(self):
        kernel = made(3)
        kernel.run(0, 0, [2, 0, 1], quantum=5)
        kernel.put(0, "steady", 10)
        kernel.sleep(0, 2, 0)
        # At 10 the turn of 1 ends first, and 2 joins behind it.
        self.assertEqual([kernel.waiting(9, 0), kernel.waiting(10, 0)], [[1, 0], [0, 1, 2]])

    def test_a_turn_ends_ahead_of_a_limit(self):
        kernel = made(3, 3)
        kernel.run(0, 0, [0, 1, 2], quantum=5)
        kernel.limit(0, 0, 5)
        kernel.limit(0, 1, 3)
        # At 5 the turn of 0 ends, and 1 begins one; 0 is over then. At 8 the turn of 2 begins.
        self.assertEqual([kernel.waiting(5, 0), kernel.waiting(8, 0)], [[1, 2], [2]])

    def test_a_turn_of_the_one_that_ends(self):
        kernel = made(3, 3)
        kernel.run(0, 0, [0, 1, 2], quantum=5)
        kernel.limit(0, 0, 3)
        self.assertEqual([kernel.waiting(7, 0), kernel.waiting(8, 0)], [[1, 2], [2, 1]])

    def test_calls_are_behind_what_happens(self):
        kernel = made(2)
        kernel.run(0, 0, [0, 1], quantum=5)
        kernel.run(5, 0, [0, 1], quantum=5)
        self.assertEqual([kernel.running(5, 0), kernel.running(9, 0), kernel.running(10, 0)], [0, 0, 1])
        kernel.leave(15, 0)
        self.assertEqual(used(kernel, 20, 2), [10, 10])

    def test_effects_of_a_call_at_its_count(self):
        kernel = made(2)
        kernel.run(0, 0, [0, 1])
        kernel.put(0, "real", 50)
        kernel.sleep(0, 0, 0)
        kernel.set_real(3, 60)
        self.assertEqual([kernel.waiting(3, 0), kernel.take(3)], [[1, 0], [(3, 0, 1)]])
        kernel.put(3, "boot", 50)
        kernel.sleep(3, 1, 1)
        kernel.stop(4, 0)
        kernel.go(70)
        self.assertEqual(kernel.waiting(4, 0), [0, 1])


class Samples(unittest.TestCase):
    def test_samples(self):
        kernel = made(2, tick=5)
        kernel.run(0, 0, [0, 1], quantum=4)
        # Ticks begin at 5, 10, 15 and so on; 0 runs from 0, 8, 16 on.
        self.assertEqual([kernel.sampled(5, 0), kernel.sampled(5, 1), kernel.sampled(6, 1)], [0, 0, 1])
        self.assertEqual([kernel.sampled(10, 0), kernel.sampled(11, 0)], [0, 1])
        self.assertEqual([kernel.sampled(40, 0), kernel.sampled(40, 1)], [4 - 1, 4])
        self.assertEqual([kernel.sampled(5 + 40 * FAR, 0), kernel.sampled(5 + 40 * FAR, 1)], [4 * FAR, 4 * FAR])

    def test_who_runs_behind_all_calls_at_the_count(self):
        kernel = made(2, tick=5)
        kernel.run(0, 0, [0])
        kernel.run(5, 0, [1])
        kernel.run(10, 0, [0])
        kernel.run(10, 0, [1])
        self.assertEqual([kernel.sampled(12, 0), kernel.sampled(12, 1)], [0, 2])

    def test_several_ticks_at_one_count(self):
        kernel = made(1, tick=2, rate=(7, 0))
        kernel.run(0, 0, [0])
        self.assertEqual([kernel.sampled(at, 0) for at in range(5)], [0, 0, 3, 7, 10])

    def test_over_processes_and_rates(self):
        kernel = made(2, 2, tick=10)
        kernel.run(0, 0, [0, 1], quantum=10)
        kernel.limit(0, 0, 35)
        kernel.set_rate(50, 10)
        # 0 runs at 20, 40 and so on, then at 50 a tick begins at each count; at 55 it is over, when 1 runs.
        self.assertEqual(kernel.sampled(50, 0), 2)
        self.assertEqual([kernel.sampled(70, 0), kernel.sampled(70, 1)], [2 + 1, 2 + 19])
        is_raised(self, errors.NoThread, kernel.sampled, [70, 2])

    def test_a_tick_at_each_count(self):
        kernel = made(2, tick=1)
        kernel.run(0, 0, [0, 1], quantum=2)
        # Tick 0 begins at count 0, and is no sample.
        self.assertEqual([kernel.sampled(at, 0) for at in range(7)], [0, 0, 1, 1, 1, 2, 3])
        self.assertEqual([kernel.sampled(at, 1) for at in range(6, 9)], [2, 3, 4])

    def test_places_in_a_queue(self):
        kernel = made(4, tick=7)
        kernel.run(0, 0, [3, 1, 0], quantum=4)
        # Ticks begin at 7 (thread 1), 14 (3), 21 (0), 28 (1), 35 (0), 42 (1), 49 (3), 56 (0), 63 (3), 70 (0), 77 (1),
        # 84 (3), and so on.
        self.assertEqual([kernel.sampled(78, thread) for thread in range(4)], [4, 4, 0, 3])
        kernel.leave(78, 1)
        # In the middle of a turn of 1, thread 0 begins one: 84, 91 and 98 are all in turns of 3.
        self.assertEqual([kernel.sampled(99, thread) for thread in range(4)], [4, 4, 0, 6])
        many = 84 * FAR
        twin = made(4, tick=7)
        twin.run(0, 0, [3, 1, 0], quantum=4)
        self.assertEqual([twin.sampled(many, thread) for thread in range(4)], [4 * FAR, 4 * FAR, 0, 4 * FAR - 1])

    def test_no_thread_runs(self):
        kernel = made(1)
        self.assertEqual(kernel.sampled(9, 0), 0)


class Many(unittest.TestCase):
    def test_a_hundred_threads_and_many_calls(self):
        kernel = made(100, 20, processors=8, tick=1000, rate=(5, 2))
        for processor in range(8):
            kernel.run(0, processor, list(range(processor, 100, 8)), quantum=1 + 10 ** processor)
        for process in range(20):
            kernel.put(0, ("process", process), 10 ** 6, period=10 ** 9 + process)
            kernel.limit(0, process, 10 ** 16 + 10 ** 14 * process)
        for thread in range(0, 100, 3):
            kernel.sleep(0, thread, thread % 20)
        for k in range(1200):
            kernel.look(10 ** 14 * k)
        self.assertEqual([kernel.read(10 ** 18, ("process", process)) >> 3 << 3 for process in range(20)],
                         [10 ** 16 + 10 ** 14 * process for process in range(20)])
        self.assertEqual([kernel.waiting(10 ** 18, processor) for processor in range(8)], [[]] * 8)
