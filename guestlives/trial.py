"""Actions, settings of a host, and trials (points 9 and 14)."""

from guestlives.errors import ActionError, SettingError
from guestlives.limits import MOST_ACTIONS, MOST_LONGEST, MOST_SLOTS, PROCESSORS

ACTIONS = ("g0", "g1", "t0", "t1", "r0", "r1", "i0", "i1", "p0", "p1", "d")


def check_action(action):
    """Raise the error of a string that is no action."""
    if action not in ACTIONS:
        raise ActionError(action)


def check_range(name, number, least, most):
    """Raise the error of a named number that is not from `least` to `most`."""
    if number < least or number > most:
        raise SettingError(name)


def check_settings(slots, longest):
    """Raise the error of the first setting that is out of range."""
    check_range("slots", slots, 0, MOST_SLOTS)
    check_range("longest", longest, 1, MOST_LONGEST)


def check_processor(p):
    """Raise the error of a processor that does not exist."""
    check_range("processor", p, 0, PROCESSORS - 1)


class Trial:
    """A guest with the settings of a host and a schedule."""

    def __init__(self, guest, slots, longest, schedule):
        check_settings(slots, longest)
        for action in schedule:
            check_action(action)
        if len(schedule) > MOST_ACTIONS:
            raise SettingError("schedule")
        self.guest = guest
        self.slots = slots
        self.longest = longest
        self.schedule = tuple(schedule)

    def key(self):
        """Return the tuple by which trials are compared."""
        return (self.guest.key(), self.slots, self.longest, self.schedule)
