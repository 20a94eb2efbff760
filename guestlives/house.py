"""A house of eight guests with their schedules (points 123 to 126)."""

from guestlives.errors import SettingError
from guestlives.plain import plain_events
from guestlives.programs import PLAIN_HANDLERS, guest_of_texts
from guestlives.trial import check_range

HOUSE = ("sum", "patcher", "remapper", "caller", "gate", "sender", "ticker", "feeder")
MOST_NUMBER = 7

# For each guest its programs, pairs (address, text); N stands for the number.
PROGRAMS = {
    "sum": (
        (0, "set r1 N, set r2 255, compare r1 r3, jumpz 19, add r0 r1, add r1 r2, jump 6, show r0, halt"),
    ),
    "patcher": (
        (0, "set r1 1, set r2 N, print 0, compare r0 r2, jumpz 21, add r0 r1, store 7 r0, jump 6, halt"),
    ),
    "remapper": (
        (0, "set r0 N, set r1 255, compare r0 r2, jumpz 58, add r0 r1, jump 16"),
        (16, "print 1, jump 48"),
        (32, "print 2, jump 53"),
        (48, "map 1 2, jump 6, map 1 1, jump 6, halt"),
    ),
    "caller": (
        (0, "lower, set r1 N, set r3 1, compare r0 r1, jumpz 15, call, jump 7, show r0, halt"),
        (48, "add r0 r3, resume"),
    ),
    "gate": (
        (0, "set r0 N, set r1 255, jump 32, halt"),
        (32, "compare r0 r2, jumpz 8, add r0 r1, right 1 6, jump 16"),
        (16, "print 1, jump 32"),
        (48, "right 1 7, resume"),
    ),
    "sender": (
        (0, "load r0 48, compare r0 r1, jumpz 0, load r2 49, show r2, halt"),
        (32, "set r0 N, store 49 r0, set r0 1, store 48 r0, halt"),
    ),
    "ticker": (
        (0, "set r1 1, set r2 N, compare r0 r2, jumpz 16, add r0 r1, jump 6, enable, halt"),
        (48, "show r0, resume"),
    ),
    "feeder": ((0, "print 0, jump 0"),),
}
OTHER_HANDLERS = {"caller": (48, 60), "gate": (48, 60), "ticker": (48, 60)}
SECOND_STARTS = {"sender": 32}

# For most guests the schedule is a row of "g0": so many actions, and so many more for each one of the number.
LENGTHS = {"sum": (6, 5), "patcher": (6, 6), "remapper": (5, 8), "caller": (7, 6), "gate": (6, 10)}


def check_guest(name, number):
    """Raise the error of a name that the house has not, or of a number out of range."""
    if name not in HOUSE:
        raise SettingError("name")
    check_range("number", number, 0, MOST_NUMBER)


def house_guest(name, number):
    """Return a guest of the house, made for a number."""
    check_guest(name, number)
    return guest_of_texts(
        [(address, text.replace("N", str(number))) for address, text in PROGRAMS[name]],
        second_start=SECOND_STARTS.get(name, None),
        handlers=OTHER_HANDLERS.get(name, PLAIN_HANDLERS),
        writes=[(0, 1, 1 + at) for at in range(number)] if name == "feeder" else [],
    )


def house_matching(name, number):
    """Return the schedule of a guest of the house, for a plain run."""
    check_guest(name, number)
    if name == "sender":
        return ["g0"] * (3 * number) + ["g1"] * 5 + ["g0"] * 6
    if name == "ticker":
        return ["g0"] * number + ["r0"] + ["g0"] * (5 + 3 * number) + ["t0"] + ["g0"] * 3
    if name == "feeder":
        return ["g0", "g0", "d"] * number + ["g0"]
    least, more = LENGTHS[name]
    return ["g0"] * (least + more * number)


def house_schedule(name, number):
    """Return the schedule of a guest of the house, for a host."""
    return ["g0" if action == "t0" else action for action in house_matching(name, number)]


def house_events(name, number):
    """Return the list of the events of a guest of the house."""
    return plain_events(house_guest(name, number), house_matching(name, number))
