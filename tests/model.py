"""A slow model of the kernel that goes on count by count, written from the document alone."""

import copy
import inspect

from timekernel import errors

HORIZON = 260
PLAIN = ("steady", "real", "boot")


def integer(thing, least=None, greatest=None):
    return (isinstance(thing, int) and not isinstance(thing, bool) and (least is None or thing >= least)
            and (greatest is None or thing <= greatest))


def need(holds, error):
    if not holds:
        raise error("as the document says")


class Row:
    """A timer of 13 or 18, live or over."""

    def __init__(self, **fields):
        self.__dict__.update(fields)


class Slow:
    def __init__(self, width, rate, *, processors=1, tick=1, base=2, levels=None, coarse=1, far=0):
        """With `far`, the model stands as if it had been looked at, and nothing else, at this count and cycle."""
        self.width, self.mult, self.shift = width, rate[0], rate[1]
        self.processors, self.tick, self.base, self.coarse = processors, tick, base, coarse
        self.levels = levels or ["queue"]
        self.at = self.c = self.begin = self.far = far
        self.values = {clock: self.mult * far for clock in PLAIN}
        self.slewing = None
        self.halted = None
        self.live = {}
        self.slots = {}
        self.counts = []
        self.taken = {}
        self.events = []
        self.owner = []
        self.over = []
        self.limits = []
        self.asleep = {}
        self.queues = [[] for _ in range(processors)]
        self.quanta = [None] * processors
        self.elapsed = [0] * processors
        self.samples = []
        self.ticks_before = (self.mult * (far - 1) >> self.shift) // tick if far else 0
        self.history = {far: self.snapshot()}
        self.rows = [("look", far)] if far else []

    def clone(self):
        """A copy; the history, whose rows never change, is not copied deeply."""
        fields = {name: self.__dict__[name] for name in self.__dict__ if name not in ("history", "rows")}
        other = copy.copy(self)
        other.__dict__ = copy.deepcopy(fields)
        other.history, other.rows = dict(self.history), list(self.rows)
        return other

    # What happens.

    def value_reading(self, clock):
        return self.values[clock] >> self.shift

    def present_tick(self):
        return self.value_reading("steady") // self.tick

    def snapshot(self):
        return {clock: self.value_reading(clock) for clock in self.values}

    def runners(self):
        return [queue[0] for queue in self.queues if queue]

    def step(self):
        """From a count, behind all calls at it, to the next one."""
        begun = self.present_tick() - self.ticks_before
        self.ticks_before = self.present_tick()
        for thread in self.runners():
            self.samples[thread] += begun
        for clock in PLAIN:
            self.values[clock] += self.mult
        if self.slewing is not None:
            sign, left, step = self.slewing
            self.values["real"] += sign * min(left, step)
            self.slewing = (sign, left - step, step) if left > step else None
        for thread in self.runners():
            self.values["thread", thread] += self.mult
            self.values["process", self.owner[thread]] += self.mult
        self.c += 1
        for number in range(self.processors):
            self.elapsed[number] += 1
            if self.queues[number] and self.elapsed[number] == self.quanta[number]:
                self.queues[number].append(self.queues[number].pop(0))
                self.elapsed[number] = 0
        self.effects()
        self.history[self.c] = self.snapshot()

    def effects(self):
        for number, most in enumerate(self.limits):
            if most is not None and not self.over[number] and self.value_reading(("process", number)) >= most:
                self.over[number] = True
                for thread, owner in enumerate(self.owner):
                    if owner == number:
                        self.unqueue(thread)
                        self.asleep.pop(thread, None)
        for number in sorted(self.live):
            row = self.live[number]
            if row.clock is not None:
                if self.value_reading(row.clock) >= row.due:
                    self.expire(number, row)
        for slot in sorted(self.slots, key=lambda slot: (slot[1], slot[0])):
            if self.present_tick() >= slot[1]:
                for number in self.slots.pop(slot):
                    self.counts[number] += 1
                    self.events.append([self.c, number, 1, 1])
                    del self.live[number]

    def expire(self, number, row):
        # A clock that is set far ahead makes a periodic timer expire very often.
        times = 1 if row.period is None else (self.value_reading(row.clock) - row.due) // row.period + 1
        self.counts[number] += times
        if number in self.taken:
            self.taken[number][2] += times
        else:
            self.taken[number] = [self.c, number, times, 0]
            self.events.append(self.taken[number])
        if row.period is None:
            del self.live[number]
        else:
            row.due += row.period * times
        for thread in sorted(self.asleep):
            timer, processor = self.asleep[thread]
            if timer == number:
                del self.asleep[thread]
                self.enqueue(processor, thread)

    def unqueue(self, thread):
        for number, queue in enumerate(self.queues):
            if thread in queue:
                if queue[0] == thread:
                    self.elapsed[number] = 0
                queue.remove(thread)

    def enqueue(self, processor, thread):
        if not self.queues[processor]:
            self.elapsed[processor] = 0
        self.queues[processor].append(thread)

    # Calls: a call is made on a copy, so that one that raises an error changes nothing.

    def call(self, name, *arguments, **more):
        """Makes a call of any name, and returns what it returns."""
        bound = inspect.signature(getattr(self, "do_" + name)).bind(*arguments, **more)
        bound.apply_defaults()
        if name == "go":
            need(self.halted is not None, errors.NotStopped)
        else:
            need(self.halted is None, errors.Stopped)
            need(integer(bound.args[0], self.at), errors.NoCycle)
        trial = self.clone()
        if name != "go":
            for _ in range((bound.args[0] - self.at) % 2 ** self.width):
                trial.step()
            trial.at = bound.args[0]
        answer = getattr(trial, "do_" + name)(*bound.args, **bound.kwargs)
        trial.effects()
        trial.history[trial.c] = trial.snapshot()
        trial.rows.append((name, *copy.deepcopy(list(bound.arguments.values()))))
        self.__dict__ = trial.__dict__
        return answer

    def need_clock(self, clock, kinds=PLAIN + ("thread", "process")):
        good = isinstance(clock, str) and clock in PLAIN
        if isinstance(clock, tuple) and len(clock) == 2 and isinstance(clock[0], str) and clock[0] in kinds[3:]:
            good = integer(clock[1], 0) and clock in self.values
        need(good, errors.NoClock)

    def need_processor(self, processor):
        need(integer(processor, 0, self.processors - 1), errors.NoProcessor)

    def need_process(self, process):
        need(integer(process, 0, len(self.over) - 1) and not self.over[process], errors.NoProcess)

    def need_thread(self, thread):
        need(integer(thread, 0, len(self.owner) - 1) and not self.over[self.owner[thread]], errors.NoThread)

    def place(self, thread):
        found = [number for number, queue in enumerate(self.queues) if thread in queue]
        return found[0] if found else None

    def do_look(self, at):
        return None

    def do_read(self, at, clock):
        self.need_clock(clock)
        return self.value_reading(clock)

    def do_set_rate(self, at, mult):
        need(integer(mult, 1, 2 ** 64 - 1), errors.NoRate)
        need(self.slewing is None or self.slewing[2] < mult, errors.NoRate)
        self.mult = mult

    def do_set_real(self, at, reading):
        need(integer(reading), errors.NoReading)
        for number in sorted(self.live):
            if self.live[number].fragile:
                del self.live[number]
                self.events.append([self.c, number, 0, 0])
                self.asleep = {k: v for k, v in self.asleep.items() if v[0] != number}
        self.values["real"] = reading << self.shift
        self.slewing = None

    def do_slew(self, at, amount, step):
        need(integer(amount) and amount != 0, errors.NoSlew)
        need(integer(step, 1, self.mult - 1), errors.NoSlew)
        self.slewing = (1 if amount > 0 else -1, abs(amount) << self.shift, step)

    def do_stop(self, at, reading):
        need(integer(reading, 0), errors.NoReading)
        self.halted = reading

    def do_go(self, reading):
        need(integer(reading, self.halted), errors.NoReading)
        for clock in ("boot", "real"):
            self.values[clock] += ((reading - self.halted) * self.coarse) << self.shift
        self.halted = None

    def do_put(self, at, clock, due, *, slack=0, period=None, fragile=False):
        self.need_clock(clock)
        need(integer(due), errors.NoReading)
        need(integer(slack, 0), errors.NoSlack)
        need(period is None or integer(period, 1), errors.NoPeriod)
        need(fragile is False or (fragile is True and clock == "real"), errors.NoFragile)
        self.live[len(self.counts)] = Row(clock=clock, due=due, slack=slack, period=period, fragile=fragile)
        self.counts.append(0)
        return len(self.counts) - 1

    def do_drop(self, at, timer):
        need(integer(timer) and timer in self.live, errors.NoTimer)
        del self.live[timer]
        self.asleep = {k: v for k, v in self.asleep.items() if v[0] != timer}
        for slot in list(self.slots):
            self.slots[slot] = [other for other in self.slots[slot] if other != timer]

    def do_expired(self, at, timer):
        need(integer(timer, 0, len(self.counts) - 1), errors.NoTimer)
        return self.counts[timer]

    def do_take(self, at):
        # Tick timers came in their order; a stable sort keeps it.
        rows = sorted(self.events, key=lambda row: (row[0], row[3], row[1] if row[3] == 0 else 0, row[2] == 0))
        self.taken = {}
        self.events = []
        return [(count, number, times) for count, number, times, _ in rows]

    def word_digits(self, number):
        digits = []
        while number:
            digits.append(number % self.base)
            number //= self.base
        return digits + [0] * (80 - len(digits))

    def to_slot(self, number, processor, due):
        now, then = self.word_digits(self.present_tick()), self.word_digits(due)
        top = max(k for k in range(80) if now[k] != then[k])
        stations = [top] + [k for k in range(top) if then[k] != 0]
        stacks = [k for k in stations if self.levels[min(k, len(self.levels) - 1)] == "stack"]
        slot = self.slots.setdefault((processor, due), [])
        slot.insert(0 if len(stacks) % 2 else len(slot), number)
        self.live[number] = Row(clock=None, due=due, processor=processor, fragile=False)

    def do_put_tick(self, at, processor, due):
        self.need_processor(processor)
        need(integer(due, self.present_tick() + 1), errors.NoTick)
        self.counts.append(0)
        self.to_slot(len(self.counts) - 1, processor, due)
        return len(self.counts) - 1

    def do_hand_over(self, at, processor, other):
        self.need_processor(processor)
        self.need_processor(other)
        need(processor != other, errors.NoProcessor)
        moved = []
        for slot in sorted(slot for slot in self.slots if slot[0] == processor):
            rows = self.slots.pop(slot)
            for number in rows:
                self.to_slot(number, other, slot[1])
            moved += rows
        return moved

    def do_process(self, at):
        self.over.append(False)
        self.limits.append(None)
        self.values["process", len(self.over) - 1] = 0
        return len(self.over) - 1

    def do_thread(self, at, process):
        self.need_process(process)
        self.owner.append(process)
        self.samples.append(0)
        self.values["thread", len(self.owner) - 1] = 0
        return len(self.owner) - 1

    def do_run(self, at, processor, threads, *, quantum=None):
        self.need_processor(processor)
        need(isinstance(threads, list), errors.NoThread)
        for thread in threads:
            self.need_thread(thread)
            need(threads.count(thread) == 1, errors.NoThread)
            need(self.place(thread) in (None, processor), errors.NoThread)
        need(quantum is None or integer(quantum, 1), errors.NoQuantum)
        self.queues[processor] = list(threads)
        self.quanta[processor] = quantum
        self.elapsed[processor] = 0
        for thread in threads:
            self.asleep.pop(thread, None)

    def do_join(self, at, processor, thread):
        self.need_processor(processor)
        self.need_thread(thread)
        need(self.place(thread) is None, errors.NoThread)
        self.asleep.pop(thread, None)
        self.enqueue(processor, thread)

    def do_leave(self, at, thread):
        self.need_thread(thread)
        need(self.place(thread) is not None, errors.NoThread)
        self.unqueue(thread)

    def do_sleep(self, at, thread, timer):
        self.need_thread(thread)
        need(self.place(thread) is not None, errors.NoThread)
        need(integer(timer) and timer in self.live and self.live[timer].clock is not None, errors.NoTimer)
        self.asleep[thread] = (timer, self.place(thread))
        self.unqueue(thread)

    def do_limit(self, at, process, reading):
        self.need_process(process)
        need(reading is None or integer(reading), errors.NoReading)
        self.limits[process] = reading

    def do_running(self, at, processor):
        self.need_processor(processor)
        return self.queues[processor][0] if self.queues[processor] else None

    def do_waiting(self, at, processor):
        self.need_processor(processor)
        return list(self.queues[processor])

    def do_sampled(self, at, thread):
        need(integer(thread, 0, len(self.owner) - 1), errors.NoThread)
        return self.samples[thread]

    # Methods that are no calls.

    def count(self):
        return self.c

    def missed(self):
        return self.at - self.c

    def last(self):
        return self.at

    def slew_left(self):
        return 0 if self.slewing is None else self.slewing[0] * self.slewing[1]

    def log(self):
        return self.rows

    def timers(self):
        return sorted(self.live)

    def due(self, timer):
        need(integer(timer) and timer in self.live, errors.NoTimer)
        return self.live[timer].due

    def alarm(self):
        need(self.halted is not None, errors.NotStopped)
        rows = [row for row in self.live.values() if row.clock in ("boot", "real")]
        if not rows:
            return None
        reading = self.halted
        for step in reversed(range(99)):
            if all(self.value_reading(row.clock) + (reading + 2 ** step - self.halted) * self.coarse
                   <= row.due + row.slack for row in rows):
                reading += 2 ** step
        return reading

    def reading_at(self, clock, count):
        self.need_clock(clock)
        need(integer(count, self.begin, self.c), errors.NoCycle)
        return self.history[count].get(clock, 0)

    def runs(self, clock, reading):
        self.need_clock(clock, PLAIN)
        need(integer(reading), errors.NoReading)
        found = []
        for count in range(self.begin, self.c + 1):
            if self.history[count][clock] == reading:
                if found and found[-1][1] == count - 1:
                    found[-1] = (found[-1][0], count)
                else:
                    found.append((count, count))
        return found

    def future(self):
        """The readings of all clocks from now on, as a list of (cycle, readings)."""
        trial = self.clone()
        found = []
        for _ in range(HORIZON):
            found.append((trial.at + len(found), trial.snapshot()))
            trial.step()
        return found

    def when(self, clock, reading):
        """None stands for a cycle behind the horizon, too."""
        need(self.halted is None, errors.Stopped)
        self.need_clock(clock)
        need(integer(reading), errors.NoReading)
        return first_cycle(self.future(), clock, reading)

    def all_windows(self):
        """All windows that begin ahead of the horizon, those of periodic timers too; None ends a window behind it."""
        future = self.future()
        found = []
        for number, row in self.live.items():
            if row.clock is None:
                first = first_cycle(future, "steady", row.due * self.tick)
                past = first_cycle(future, "steady", (row.due + 1) * self.tick)
                if first is not None:
                    found.append((first, None if past is None else max(first, past - 1), number))
                continue
            due = row.due
            while (first := first_cycle(future, row.clock, due)) is not None:
                found.append((first, first_cycle(future, row.clock, due + row.slack), number))
                if row.period is None:
                    break
                due += row.period
        return found

    def windows(self):
        need(self.halted is None, errors.Stopped)
        found = {}
        for first, last, number in self.all_windows():
            found.setdefault(number, (first, last, number))
        return sorted(found.values(), key=lambda row: (row[0], row[2]))

    def reasons(self, until):
        """The looks up to a cycle ahead of the horizon, and why they are needed."""
        need(self.halted is None, errors.Stopped)
        need(integer(until, self.at), errors.NoCycle)
        span = min(2 ** self.width - 1, (2 ** 64 - 1) // self.mult)
        windows = [row for row in self.all_windows() if row[1] is not None]
        look, found = self.at, []
        while True:
            ends = [(last, first, number) for first, last, number in windows if first > look]
            last, first, number = min(ends, default=(look + span + 1, 0, 0))
            stretch = ("window", number, first, last) if last <= look + span else ("span", look + 1, look + span)
            look = stretch[-1]
            if look >= until:
                return found
            found.append((look, stretch))

    def plan(self, until):
        found = [look for look, _ in self.reasons(until)]
        need(len(found) <= 200, errors.TooMany)
        return found

    def certificate(self, until):
        found = [stretch for _, stretch in self.reasons(until)]
        need(len(found) <= 200, errors.TooMany)
        return found

    def twin(self):
        return self.clone()

    def moved(self, width, rate):
        need(self.halted is None, errors.Stopped)
        need(integer(width, 1, 64), errors.NoWidth)
        need(isinstance(rate, tuple) and len(rate) == 2 and integer(rate[0], 1, 2 ** 64 - 1)
             and integer(rate[1], 0, 64), errors.NoRate)
        need(self.slewing is None, errors.NoSlew)
        trial = self.clone()
        trial.values = {clock: (trial.values[clock] << rate[1]) >> self.shift for clock in trial.values}
        trial.width, (trial.mult, trial.shift) = width, rate
        trial.begin = self.c
        trial.rows = []
        return trial


def first_cycle(future, clock, reading):
    return next((cycle for cycle, readings in future if readings[clock] >= reading), None)
