"""What would happen if no further call were made, and the looks that a kernel needs until then."""

from timekernel.checks import check_reading, is_at_least
from timekernel.clocks import check_clock
from timekernel.errors import NoCycle, TooMany
from timekernel.happenings import happen, next_event
from timekernel.rates import longest_span

MOST_LOOKS = 200


class Forecast:
    """The clocks from now on, if no further call were made and nothing were missed."""

    def __init__(self, state):
        self.state = state
        self.ahead = state.cycle - state.now
        later = state.copied()
        # Only timers that wake a thread change what the clocks do.
        later.live = {timer: later.live[timer] for timer, _ in later.asleep.values()}
        later.slots = {}
        event = next_event(later, None)
        while event is not None:
            happen(later, event)
            event = next_event(later, None)
        self.segments = later.segments[len(state.segments) - 1:]

    def segment(self, place, past, is_before):
        """The last segment for which a test holds that holds for all segments ahead of it, and for the first."""
        while past - place > 1:
            middle = (place + past) // 2
            if is_before(self.segments[middle]):
                place = middle
            else:
                past = middle
        return self.segments[place]

    def reading(self, clock, cycle):
        """What a clock would read at a cycle."""
        count = cycle - self.ahead
        segment = self.segment(0, len(self.segments), lambda other: other.start <= count)
        return segment.reading(clock, count)

    def reach(self, clock, reading):
        """The least cycle from now on at which a clock would read at least `reading`, or None."""
        segment = self.segment(0, len(self.segments), lambda other: other.reading(clock, other.start) < reading)
        count = segment.reach(clock, reading)
        return None if count is None else max(count + self.ahead, self.state.cycle)

    def window(self, timer, look):
        """The first window of a live timer that begins behind a look, as a tuple (first, last), or None."""
        if timer in self.state.slot_of:
            return self.tick_window(timer, look)
        row = self.state.live[timer]
        if look > self.state.cycle:
            reading = self.reading(row.clock, look)
            if reading >= row.target:
                if row.period is None:
                    return None
                row = row.later(row.times(reading))
        first = self.reach(row.clock, row.target)
        return None if first is None else (first, self.reach(row.clock, row.target + row.slack))

    def tick_window(self, timer, look):
        """The window of a tick timer, or None if it does not begin behind a look."""
        due = self.state.slot_of[timer][1]
        tick = self.state.settings.tick
        first = self.reach("steady", due * tick)
        past = self.reach("steady", (due + 1) * tick)
        return (first, max(first, past - 1)) if first > look else None


def forecast_of(state):
    """The forecast of a state that does not change any more."""
    if state.forecast is None:
        state.forecast = Forecast(state)
    return state.forecast


def cycle_when(state, clock, reading):
    """The least cycle at which a clock would read at least `reading`, or None."""
    check_clock(state, clock)
    check_reading(reading)
    return forecast_of(state).reach(clock, reading)


def open_windows(forecast, timers, look):
    """The first windows of timers behind a look, as a dict; timers that have none are left out."""
    windows = {timer: forecast.window(timer, look) for timer in timers}
    return {timer: windows[timer] for timer in windows if windows[timer] is not None}


def present_windows(state, timers):
    """The windows (first, last, timer) of live timers."""
    windows = open_windows(forecast_of(state), timers, state.cycle)
    rows = [(windows[timer][0], timer, windows[timer][1]) for timer in windows]
    return [(first, last, timer) for first, timer, last in sorted(rows)]


def reasons(state, timers, until):
    """The looks that are enough up to a cycle, each with a stretch that shows why: tuples (look, stretch)."""
    if not is_at_least(until, state.cycle):
        raise NoCycle("the last cycle is one not less than that of the last call")
    forecast = forecast_of(state)
    span = longest_span(state.settings.width, (state.course().mult, state.course().shift))
    windows = open_windows(forecast, timers, state.cycle)
    found = []
    look, stretch = next_reason(windows, state.cycle, span)
    while look < until:
        if len(found) == MOST_LOOKS:
            raise TooMany("there are more than 200 looks")
        found.append((look, stretch))
        passed = [timer for timer in windows if windows[timer][0] <= look]
        windows = {timer: windows[timer] for timer in windows if windows[timer][0] > look}
        windows.update(open_windows(forecast, passed, look))
        look, stretch = next_reason(windows, look, span)
    return found


def next_reason(windows, look, span):
    """The last cycle at which a look must follow one, and the stretch that asks for it."""
    rows = [(windows[timer][1], windows[timer][0], timer) for timer in windows if windows[timer][1] is not None]
    last, first, timer = min(rows, default=(look + span + 1, 0, 0))
    if last <= look + span:
        return (last, ("window", timer, first, last))
    return (look + span, ("span", look + 1, look + span))
