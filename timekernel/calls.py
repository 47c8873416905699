"""Calls as rows of a log: tuples of the name of a method and of all its arguments."""

from timekernel.checks import is_at_least
from timekernel.errors import NoCall

# How many arguments each call has; `go` alone has no cycle.
ARGUMENTS = {
    "look": 1, "read": 2, "set_rate": 2, "set_real": 2, "slew": 3, "stop": 2, "go": 1, "put": 6, "drop": 2,
    "expired": 2, "take": 1, "put_tick": 3, "hand_over": 3, "process": 1, "thread": 2, "run": 4, "join": 3,
    "leave": 2, "sleep": 3, "limit": 3, "running": 2, "waiting": 2, "sampled": 2}


def is_row(thing):
    """Whether an object is a tuple of the name of a call and of as many arguments as it has."""
    if not isinstance(thing, tuple) or not thing or not isinstance(thing[0], str):
        return False
    return ARGUMENTS.get(thing[0]) == len(thing) - 1


def check_log(log):
    if not isinstance(log, list) or not all([is_row(row) for row in log]):
        raise NoCall("a log is a list of tuples of the name of a call and of all its arguments")


def check_log_in_order(log):
    check_log(log)
    before = 0
    halted = False
    for row in log:
        if halted != (row[0] == "go"):
            raise NoCall("a go stands directly behind a stop, and a stop ahead of a go or at the end")
        if row[0] != "go":
            if not is_at_least(row[1], before):
                raise NoCall("the cycles of a log are cycles, none less than the one before")
            before = row[1]
        halted = row[0] == "stop"


def methods_of(kernel):
    """The calls of a kernel by their names, which take all their arguments by position."""
    return {
        "look": kernel.look, "read": kernel.read, "set_rate": kernel.set_rate, "set_real": kernel.set_real,
        "slew": kernel.slew, "go": kernel.go, "drop": kernel.drop, "expired": kernel.expired, "take": kernel.take,
        "put_tick": kernel.put_tick, "hand_over": kernel.hand_over, "process": kernel.process,
        "thread": kernel.thread, "leave": kernel.leave, "sleep": kernel.sleep, "limit": kernel.limit,
        "running": kernel.running, "waiting": kernel.waiting, "sampled": kernel.sampled,
        "stop": lambda at, reading: kernel.stop(at, reading),
        "join": lambda at, processor, thread: kernel.join(at, processor, thread),
        "run": lambda at, processor, threads, quantum: kernel.run(at, processor, threads, quantum=quantum),
        "put": lambda at, clock, due, slack, period, fragile: kernel.put(
            at, clock, due, slack=slack, period=period, fragile=fragile),
    }
