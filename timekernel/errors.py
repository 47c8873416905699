"""The errors of the package, each directly under KernelError."""


class KernelError(ValueError):
    """What all errors of the package have in common."""


class NoFragile(KernelError):
    """Raised where `fragile` is not a bool, or True for another clock than the real one."""


class NoWidth(KernelError):
    """Raised where a width is not an integer from 1 to 64."""


class NoLooks(KernelError):
    """Raised where looks, or the values that a counter shows at them, are not such a list."""


class NoCycle(KernelError):
    """Raised where a cycle or a count is not one, or is out of order."""


class NoRate(KernelError):
    """Raised where a rate, or a part of one, is not one."""


class NoReading(KernelError):
    """Raised where a reading is not one."""


class NoLine(KernelError):
    """Raised where a line is not one."""


class NoProcessor(KernelError):
    """Raised where there is no such processor."""


class NoTick(KernelError):
    """Raised where a tick is not such an integer, or is not later than the present one."""


class NoLevels(KernelError):
    """Raised where the base or the words of the levels of a wheel are not such."""


class NoClock(KernelError):
    """Raised where there is no such clock."""


class NoSlew(KernelError):
    """Raised where the amount or the step of a slew is not one, or a slew is running that must not be."""


class Stopped(KernelError):
    """Raised where the kernel is stopped."""


class NotStopped(KernelError):
    """Raised where the kernel is not stopped."""


class NoSlack(KernelError):
    """Raised where a slack is not an integer >= 0."""


class NoPeriod(KernelError):
    """Raised where a period is neither None nor an integer >= 1."""


class NoTimer(KernelError):
    """Raised where there is no such timer."""


class NoWindow(KernelError):
    """Raised where windows are not a list of such."""


class NoSpan(KernelError):
    """Raised where a span is not an integer >= 1."""


class NoProcess(KernelError):
    """Raised where there is no such process, or it is over."""


class NoThread(KernelError):
    """Raised where there is no such thread, or it cannot be used so."""


class NoQuantum(KernelError):
    """Raised where a quantum is not an integer >= 1."""


class NoKernel(KernelError):
    """Raised where a kernel is not one, or not one of the same settings."""


class NoCall(KernelError):
    """Raised where a log is not a list of calls."""


class TooMany(KernelError):
    """Raised where there are more looks than can be listed."""


class NoRow(KernelError):
    """Raised where a line of a text, counted from 0, is not the line of a row."""

    def __init__(self, why, line=0):
        KernelError.__init__(self, why)
        self.line = line
