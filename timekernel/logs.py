"""Logs: calls that are made again, other looks, and logs as texts."""

from timekernel.calls import check_log, check_log_in_order, methods_of
from timekernel.checks import are_cycles, check_width
from timekernel.errors import NoKernel, NoLooks, NoRow
from timekernel.kernel import Kernel
from timekernel.state import copied_row
from timekernel.texts import read_row, shown_row

# These calls change nothing but the count.
PASSIVE = ("look", "read", "expired", "running", "waiting", "sampled")


def new_like(kernel):
    """A new kernel that is made with the same arguments."""
    made = kernel.state.settings
    return Kernel(made.width, made.rate, processors=made.processors, tick=made.tick, base=made.base,
                  levels=list(made.levels), coarse=made.coarse)


def replayed(kernel, log):
    """A new kernel on which all calls of a log have been made, and what they returned."""
    if not isinstance(kernel, Kernel):
        raise NoKernel("this is not a kernel")
    check_log(log)
    fresh = new_like(kernel)
    methods = methods_of(fresh)
    answers = []
    for row in log:
        method = methods[row[0]]
        arguments = row[1:]
        answers.append(method(*arguments))
    return (fresh, answers)


def with_looks(log, looks):
    """A log with a row for each look, ahead of the first row whose cycle is not less."""
    check_log_in_order(log)
    if not are_cycles(looks):
        raise NoLooks("looks are a list of cycles, none less than the one before")
    if log and log[-1][0] == "stop" and looks and looks[-1] > log[-1][1]:
        raise NoLooks("the kernel is stopped ahead of the last look")
    rows = []
    put_in = 0
    for row in log:
        if row[0] != "go":
            while put_in < len(looks) and looks[put_in] <= row[1]:
                rows.append(("look", looks[put_in]))
                put_in += 1
        rows.append(copied_row(row))
    return rows + [("look", look) for look in looks[put_in:]]


def shortest(width, log):
    """The shortest log in which each row that changes something finds the same count."""
    check_width(width)
    check_log_in_order(log)
    most = (1 << width) - 1
    rows = []
    cycle, count = 0, 0
    # Those of the last row that was kept.
    kept_cycle, kept_count = 0, 0
    for row in log:
        if row[0] != "go":
            count += (row[1] - cycle) & most
            cycle = row[1]
        if row[0] not in PASSIVE:
            rows.extend(looks_ahead(cycle, count - kept_count, most))
            rows.append(copied_row(row))
            kept_cycle, kept_count = cycle, count
    if cycle > kept_cycle:
        rows.extend(looks_ahead(cycle, count - kept_count, most))
        rows.append(("look", cycle))
    return rows


def looks_ahead(cycle, counts, most):
    """The fewest looks ahead of a cycle with which so many counts more are found at it than at the row before."""
    # All that is missed is missed ahead of the first of these looks.
    begin = cycle - counts
    return [("look", begin + number * most) for number in range(1, (counts - 1) // most + 1)]


def show_log(log):
    """A log as a text, each row a line."""
    check_log(log)
    return "\n".join([shown_row(row) for row in log])


def read_log(text):
    """The log of a text."""
    if not isinstance(text, str):
        raise NoRow("the text of a log is a string", 0)
    if not text:
        return []
    return [read_row(line, number) for number, line in enumerate(text.split("\n"))]
