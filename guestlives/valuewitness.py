"""The witnesses of the value table's scenarios (points 95 and 96)."""

from guestlives.errors import SettingError
from guestlives.guest import PLAIN_PAGES
from guestlives.limits import MOST_LONGEST, MOST_SLOTS
from guestlives.programs import guest_of_texts
from guestlives.trial import Trial

# For each scenario but that of leaving: the programs and the schedule.
WITNESSES = {
    ("store", "seen"): (((0, "set r0 2, store 7 r0, print 1, halt"),), ("g0", "g0", "g0")),
    ("make last", "read"): (((0, "set r0 5, jump 8"), (8, "show r0, halt")), ("g0", "g0", "g0")),
    ("make", "inspect"): (((0, "set r0 5, print 1, halt"),), ("g0", "i0")),
    ("make", "fault"): (((0, "set r0 5, load r1 32, halt"),), ("g0", "g0")),
    ("make twice", "inspect"): (((0, "set r0 5, set r0 6, halt"),), ("g0", "i0")),
    ("make", "clobber", "read"): (
        ((0, "set r3 1, move r2 r1, add r1 r3, show r2, halt"),),
        ("g0", "g0", "g0", "g0"),
    ),
}

# The page of the cell that is loaded has no rights.
FAULT_PAGES = ((0, 7), (1, 7), (2, 0), (3, 7))

LEFT_TEXT = "set r0 5, print 1, show r0, halt"
OTHER_START = 48


def trial_of(guest, schedule):
    """Return the trial of a guest with the settings of all these witnesses."""
    return Trial(guest, MOST_SLOTS, MOST_LONGEST, schedule)


def leave_witness(other, device):
    """Return the trial in which a processor leaves a block in its midst."""
    if other:
        programs = [(0, LEFT_TEXT), (OTHER_START, "set r0 2, store 4 r0, print 9, halt")]
        return trial_of(guest_of_texts(programs, second_start=OTHER_START), ["g0", "g1", "g1", "g0", "g0"])
    if device:
        return trial_of(guest_of_texts([(0, LEFT_TEXT)], writes=((0, 4, 2),)), ["g0", "d", "g0", "g0"])
    return trial_of(guest_of_texts([(0, "set r0 5, set r1 2, store 10 r1, print 1, show r0, halt")]), ["g0"] * 5)


def value_witness(scenario, *, other=True, device=True):
    """Return the trial that shows what a scenario says, in an environment."""
    moves = tuple(scenario)
    if moves == ("make", "leave", "read"):
        return leave_witness(other, device)
    if moves not in WITNESSES:
        raise SettingError("scenario")
    programs, schedule = WITNESSES[moves]
    pages = FAULT_PAGES if moves == ("make", "fault") else PLAIN_PAGES
    return trial_of(guest_of_texts(programs, pages=pages), schedule)
