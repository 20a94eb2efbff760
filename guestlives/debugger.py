"""The debugger: a guest run by a host, with a log that can be taken back (points 128 to 132)."""

from guestlives.against import agrees
from guestlives.errors import DebuggerError, SettingError
from guestlives.host import Host, host_actions
from guestlives.hothost import HotHost
from guestlives.limits import CELLS, FRAMES
from guestlives.trial import check_processor, check_range

MOST_STEPS = 1000


def check_count(count):
    """Raise the error of a negative count."""
    if count < 0:
        raise SettingError("count")


class Detour:
    """What a debugger does within one `with` statement, and what it is behind it."""

    def __init__(self, debugger):
        self.debugger = debugger
        self.host = None
        self.log = []
        self.undone = []

    def __enter__(self):
        debugger = self.debugger
        self.host = debugger.host
        self.log = debugger.log
        self.undone = debugger.undone
        # Within the statement all is done to copies: what the debugger has now stays untouched.
        debugger.host = debugger.replayed(debugger.host.schedule)
        debugger.log = list(debugger.log)
        debugger.undone = list(debugger.undone)
        return debugger

    def __exit__(self, kind, value, trace):
        debugger = self.debugger
        debugger.host = self.host
        debugger.log = self.log
        debugger.undone = self.undone


class Debugger:
    """A guest that a host runs, with a log of all that is done and of all that was taken back."""

    def __init__(self, guest, policy, *, slots=4, longest=4, hot=None):
        self.guest = guest
        self.policy = policy
        self.slots = slots
        self.longest = longest
        self.hot = hot
        self.host = self.replayed([])
        self.log = []
        self.undone = []

    @property
    def position(self):
        """How many actions stand in the log."""
        return len(self.log)

    def do(self, action):
        """Let the host do an action and return the list of its events."""
        events = self.record(action)
        self.undone.clear()
        return events

    def run(self, schedule):
        """Let the host do all actions of a schedule in order and return the list of their events."""
        actions = host_actions(schedule)
        events = []
        for action in actions:
            events.extend(self.do(action))
        return events

    def state(self, p):
        """Return the key of processor p."""
        check_processor(p)
        return self.host.view().processors[p].key()

    def cell(self, frame, offset):
        """Return the number in a cell."""
        check_range("frame", frame, 0, FRAMES - 1)
        check_range("offset", offset, 0, CELLS - 1)
        return self.host.view().frames[frame][offset]

    def agrees(self):
        """Tell whether the host agrees with the plain run."""
        return agrees(self.host)

    def find(self, name):
        """Yield the pairs (number of the action, event) of all events with a name in the log."""
        for at, (_, events) in enumerate(self.log):
            for event in events:
                if event[0] == name:
                    yield (at + 1, event)

    def until(self, stop, p, *, limit=64):
        """Let processor p go until a stop is met and return how often it went."""
        check_processor(p)
        check_range("limit", limit, 0, MOST_STEPS)
        undone = list(self.undone)
        events = list(self.log[-1][1]) if len(self.log) > 0 else []
        count = 0
        while not stop(self.host.view(), events):
            if count == limit:
                if count > 0:
                    self.back(count)
                    self.undone = undone
                raise DebuggerError("limit")
            events = self.do(f"g{p}")
            count = count + 1
        return count

    def back(self, count=1):
        """Take the last actions of the log back."""
        check_count(count)
        left = len(self.log) - count
        if left < 0:
            raise DebuggerError("start")
        actions = [action for action, _ in self.log]
        self.host = self.replayed(actions[:left])
        self.log = self.log[:left]
        self.undone = actions[left:] + self.undone

    def forward(self, count=1):
        """Do the first actions that were taken back again and return the list of their events."""
        check_count(count)
        if len(self.undone) < count:
            raise DebuggerError("end")
        events = []
        for _ in range(count):
            events.extend(self.record(self.undone.pop(0)))
        return events

    def detour(self):
        """Return an object for one `with` statement, behind which the debugger is as before."""
        return Detour(self)

    def rehearse(self, *schedules):
        """Return the list of the lists of the events of schedules that are done in a detour."""
        with self.detour():
            return [self.run(schedule) for schedule in schedules]

    def foresee(self, stop, p, *, limit=64):
        """Return the pair of what `until` returns in a detour and of the key of processor p behind it."""
        with self.detour():
            count = self.until(stop, p, limit=limit)
            return (count, self.state(p))

    def record(self, action):
        """Let the host do an action, write it into the log and return the list of its events."""
        events = self.host.do(action)
        self.log.append((action, tuple(events)))
        return events

    def replayed(self, actions):
        """Return a new host with the settings of the debugger that has done some actions."""
        if self.hot is None:
            host = Host(self.guest, self.policy, slots=self.slots, longest=self.longest)
        else:
            host = HotHost(self.guest, self.policy, slots=self.slots, longest=self.longest, hot=self.hot)
        host.run(actions)
        return host
