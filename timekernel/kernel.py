"""The kernel: clocks, timers and threads that depend on a counter, but not on looks."""

from timekernel.checks import check_reading, is_at_least
from timekernel.clocks import alarm_reading, begin_slew, change_rate, change_real, check_clock, halt
from timekernel.clocks import parts_left, past_reading, past_runs, resume
from timekernel.errors import NoCycle, NotStopped, Stopped
from timekernel.forecast import cycle_when, present_windows, reasons
from timekernel.happenings import advance, settle
from timekernel.moving import moved_state
from timekernel.sampling import samples_of
from timekernel.settings import checked_settings
from timekernel.state import copied_row, first_state
from timekernel.threads import join_thread, leave_queue, make_process, make_thread, present_queue, put_to_sleep
from timekernel.threads import run_threads, running_thread, set_limit
from timekernel.timers import break_timers, drop_timer, due_of, live_timers, put_timer, take_all, times_expired
from timekernel.wheels import hand_over_timers, put_tick_timer


class Kernel:
    """A kernel that learns the time from a counter of some bits."""

    def __init__(self, width, rate, *, processors=1, tick=1, base=2, levels=None, coarse=1):
        self.state = first_state(checked_settings(width, rate, processors, tick, base, levels, coarse))

    def _going(self):
        """The state, if the kernel is not stopped."""
        if self.state.halted is not None:
            raise Stopped("the kernel is stopped")
        return self.state

    def _begun(self, at):
        """A copy of the state at a call: the count has grown, and all has happened up to it."""
        if not is_at_least(at, self._going().cycle):
            raise NoCycle("the cycle of a call is an integer not less than that of the call before")
        state = self.state.copied()
        advance(state, at)
        return state

    def _done(self, state, row):
        """Ends a call that has raised no error."""
        settle(state)
        state.rows.append(row)
        self.state = state

    def look(self, at):
        """Looks at the counter and does nothing else."""
        self._done(self._begun(at), ("look", at))

    def count(self):
        """The count, as of the last call."""
        return self.state.now

    def missed(self):
        """The cycles of the last call less the count."""
        return self.state.cycle - self.state.now

    def last(self):
        """The cycle of the last call."""
        return self.state.cycle

    def read(self, at, clock):
        """What a clock reads."""
        state = self._begun(at)
        check_clock(state, clock)
        self._done(state, ("read", at, clock))
        return state.reading(clock)

    def set_rate(self, at, mult):
        """Sets the multiplier from this count on."""
        state = self._begun(at)
        change_rate(state, mult)
        self._done(state, ("set_rate", at, mult))

    def set_real(self, at, reading):
        """Sets the real clock; fragile timers break, and a running slew ends."""
        state = self._begun(at)
        check_reading(reading)
        break_timers(state)
        change_real(state, reading)
        self._done(state, ("set_real", at, reading))

    def slew(self, at, amount, step):
        """Lets the real clock gain some units, or lose them, by a step for each count."""
        state = self._begun(at)
        begin_slew(state, amount, step)
        self._done(state, ("slew", at, amount, step))

    def slew_left(self):
        """How many parts the running slew still has to gain, as of the last call."""
        return parts_left(self.state)

    def stop(self, at, reading):
        """Stops the kernel at a reading of the coarse clock."""
        state = self._begun(at)
        halt(state, reading)
        self._done(state, ("stop", at, reading))

    def go(self, reading):
        """Goes on at a reading of the coarse clock."""
        if self.state.halted is None:
            raise NotStopped("the kernel is not stopped")
        state = self.state.copied()
        resume(state, reading)
        self._done(state, ("go", reading))

    def alarm(self):
        """The latest reading of the coarse clock at which to go on in time for all timers, or None."""
        if self.state.halted is None:
            raise NotStopped("the kernel is not stopped")
        return alarm_reading(self.state)

    def when(self, clock, reading):
        """The least cycle at which a clock would read at least `reading`, or None."""
        return cycle_when(self._going(), clock, reading)

    def reading_at(self, clock, count):
        """What a clock read at a count."""
        return past_reading(self.state, clock, count)

    def runs(self, clock, reading):
        """The stretches of counts at which a clock read exactly `reading`."""
        return past_runs(self.state, clock, reading)

    def put(self, at, clock, due, *, slack=0, period=None, fragile=False):
        """Sets a timer on a clock and returns its number."""
        state = self._begun(at)
        timer = put_timer(state, clock, due, slack, period, fragile)
        self._done(state, ("put", at, clock, due, slack, period, fragile))
        return timer

    def drop(self, at, timer):
        """Ends a live timer."""
        state = self._begun(at)
        drop_timer(state, timer)
        self._done(state, ("drop", at, timer))

    def expired(self, at, timer):
        """How often a timer has expired so far."""
        state = self._begun(at)
        times = times_expired(state, timer)
        self._done(state, ("expired", at, timer))
        return times

    def timers(self):
        """The numbers of the live timers in ascending order."""
        return live_timers(self.state)

    def due(self, timer):
        """The next due reading of a live timer, or the tick of a tick timer."""
        return due_of(self.state, timer)

    def take(self, at):
        """What has expired and what was broken since the last take."""
        state = self._begun(at)
        taken = take_all(state)
        self._done(state, ("take", at))
        return taken

    def windows(self):
        """The windows of the live timers, as tuples (first, last, timer)."""
        return present_windows(self._going(), self.timers())

    def plan(self, until):
        """The looks that are enough up to a cycle, each as late as possible."""
        return [look for look, _ in reasons(self._going(), self.timers(), until)]

    def certificate(self, until):
        """For each look of the plan a stretch in which a look must lie."""
        return [stretch for _, stretch in reasons(self._going(), self.timers(), until)]

    def put_tick(self, at, processor, due):
        """Sets a tick timer on a processor and returns its number."""
        state = self._begun(at)
        timer = put_tick_timer(state, processor, due)
        self._done(state, ("put_tick", at, processor, due))
        return timer

    def hand_over(self, at, processor, other):
        """Puts all tick timers of a processor on another one, and returns their numbers."""
        state = self._begun(at)
        moved = hand_over_timers(state, processor, other)
        self._done(state, ("hand_over", at, processor, other))
        return moved

    def process(self, at):
        """Makes a process and returns its number."""
        state = self._begun(at)
        made = make_process(state)
        self._done(state, ("process", at))
        return made

    def thread(self, at, process):
        """Makes a thread of a process and returns its number."""
        state = self._begun(at)
        made = make_thread(state, process)
        self._done(state, ("thread", at, process))
        return made

    def run(self, at, processor, threads, *, quantum=None):
        """Gives a processor a new queue of threads and a quantum."""
        state = self._begun(at)
        run_threads(state, processor, threads, quantum)
        self._done(state, ("run", at, processor, list(threads), quantum))

    def join(self, at, processor, thread):
        """Puts a thread at the end of a queue."""
        state = self._begun(at)
        join_thread(state, processor, thread)
        self._done(state, ("join", at, processor, thread))

    def leave(self, at, thread):
        """Takes a thread out of its queue."""
        state = self._begun(at)
        leave_queue(state, thread)
        self._done(state, ("leave", at, thread))

    def sleep(self, at, thread, timer):
        """Takes a thread out of its queue until a timer expires."""
        state = self._begun(at)
        put_to_sleep(state, thread, timer)
        self._done(state, ("sleep", at, thread, timer))

    def limit(self, at, process, reading):
        """Sets the reading of its clock at which a process is over."""
        state = self._begun(at)
        set_limit(state, process, reading)
        self._done(state, ("limit", at, process, reading))

    def running(self, at, processor):
        """The thread that runs on a processor from now on, or None."""
        state = self._begun(at)
        found = running_thread(state, processor)
        self._done(state, ("running", at, processor))
        return found

    def waiting(self, at, processor):
        """The whole queue of a processor, the running thread first."""
        state = self._begun(at)
        found = present_queue(state, processor)
        self._done(state, ("waiting", at, processor))
        return found

    def sampled(self, at, thread):
        """How many ticks have begun while a thread ran."""
        state = self._begun(at)
        samples = samples_of(state, thread)
        self._done(state, ("sampled", at, thread))
        return samples

    def twin(self):
        """A new kernel that is alike from now on and has the same history."""
        return _kernel_of(self.state.copied())

    def moved(self, width, rate):
        """A twin on another counter, with an empty log and no history ahead of this count."""
        return _kernel_of(moved_state(self._going(), width, rate))

    def log(self):
        """All calls that raised no error, as tuples of the name and the arguments."""
        return [copied_row(row) for row in self.state.rows]


def _kernel_of(state):
    """A new kernel with a state of its own."""
    kernel = Kernel(state.settings.width, state.settings.rate)
    kernel.state = state
    return kernel
