"""Processes, threads and the queues in which threads take turns."""

from timekernel.checks import check_processor, is_at_least, is_integer, is_within
from timekernel.errors import NoProcess, NoQuantum, NoReading, NoThread, NoTimer
from timekernel.queues import turned, with_last, without


def check_process(state, process):
    if not is_within(process, 0, state.made - 1) or process in state.over:
        raise NoProcess("there is no such process, or it is over")


def is_thread(state, thread):
    """Whether an object is the number of a thread, be its process over or not."""
    return is_within(thread, 0, len(state.owners) - 1)


def check_thread(state, thread):
    if not is_thread(state, thread) or state.owners[thread] in state.over:
        raise NoThread("there is no such thread, or its process is over")


def processor_of(state, thread):
    """The processor in whose queue a thread is, or None."""
    for processor, queue in enumerate(state.course().queues):
        if thread in queue[0]:
            return processor
    return None


def make_process(state):
    """Makes a process and returns its number."""
    state.made += 1
    return state.made - 1


def make_thread(state, process):
    """Makes a thread of a process and returns its number."""
    check_process(state, process)
    state.owners = state.owners + (process,)
    return len(state.owners) - 1


def present_queue(state, processor):
    """The threads in the queue of a processor, the running one first."""
    check_processor(state, processor)
    return list(turned(state.course().queues[processor], state.now)[0])


def running_thread(state, processor):
    """The thread that runs on a processor, or None."""
    threads = present_queue(state, processor)
    return threads[0] if threads else None


def check_run(state, processor, threads, quantum):
    check_processor(state, processor)
    if not isinstance(threads, list):
        raise NoThread("the threads of a queue are a list")
    seen = {}
    for thread in threads:
        check_thread(state, thread)
        if thread in seen or processor_of(state, thread) not in (None, processor):
            raise NoThread("a thread is in one queue at most, and only once")
        seen[thread] = True
    if quantum is not None and not is_at_least(quantum, 1):
        raise NoQuantum("a quantum is None or an integer >= 1")


def run_threads(state, processor, threads, quantum):
    """Gives a processor a new queue, whose first thread begins a turn."""
    check_run(state, processor, threads, quantum)
    for thread in threads:
        state.asleep.pop(thread, None)
    state.draft().set_queue(processor, (tuple(threads), quantum, state.now))


def join_thread(state, processor, thread):
    """Puts a thread that is in no queue at the end of one."""
    check_processor(state, processor)
    check_thread(state, thread)
    if processor_of(state, thread) is not None:
        raise NoThread("the thread is in a queue")
    put_last(state, processor, thread)


def put_last(state, processor, thread):
    """Ends the sleep of a thread and puts it at the end of a queue."""
    state.asleep.pop(thread, None)
    draft = state.draft()
    draft.set_queue(processor, with_last(draft.queues[processor], thread, state.now))


def take_out(state, threads):
    """Takes threads out of their queues."""
    draft = state.draft()
    for processor, queue in enumerate(list(draft.queues)):
        draft.set_queue(processor, without(queue, threads, state.now))


def check_queued(state, thread):
    check_thread(state, thread)
    if processor_of(state, thread) is None:
        raise NoThread("the thread is in no queue")


def leave_queue(state, thread):
    """Takes a thread out of its queue."""
    check_queued(state, thread)
    take_out(state, [thread])


def put_to_sleep(state, thread, timer):
    """Takes a thread out of its queue until a timer expires."""
    check_queued(state, thread)
    if not is_integer(timer) or timer not in state.live:
        raise NoTimer("there is no such live timer on a clock")
    state.asleep[thread] = (timer, processor_of(state, thread))
    take_out(state, [thread])


def wake_sleepers(state, timer):
    """Puts the threads that sleep on a timer at the end of the queues that they left."""
    if not state.asleep:
        return
    for thread in sorted(state.asleep):
        if state.asleep[thread][0] == timer:
            put_last(state, state.asleep[thread][1], thread)


def sleep_on(state, timer):
    """Nothing wakes the sleepers of a timer that is over any more but a call that puts them in a queue."""
    for thread in sorted(state.asleep):
        if state.asleep[thread][0] == timer:
            del state.asleep[thread]


def set_limit(state, process, reading):
    """Sets or ends the limit of a process."""
    check_process(state, process)
    if reading is None:
        state.limits.pop(process, None)
    elif is_integer(reading):
        state.limits[process] = reading
    else:
        raise NoReading("a limit is None or an integer")


def end_process(state, process):
    """Ends a process; its threads leave their queues and their sleep."""
    state.over[process] = True
    state.limits.pop(process, None)
    threads = [thread for thread, owner in enumerate(state.owners) if owner == process]
    for thread in threads:
        state.asleep.pop(thread, None)
    take_out(state, threads)
