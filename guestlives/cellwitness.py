"""The witnesses of the cell table's scenarios (points 87 and 88)."""

from guestlives.errors import SettingError
from guestlives.guest import PLAIN_PAGES
from guestlives.limits import CELLS, MOST_LONGEST, MOST_SLOTS
from guestlives.programs import guest_of_texts
from guestlives.trial import Trial

FIRST_SAME = ("first", "same")
LATER_SAME = ("later", "same")

# The pages 1 and 2 here lead to frame 0 too.
ALIAS_PAGES = ((0, 7), (0, 7), (2, 7), (3, 7))
FAR_ALIAS_PAGES = ((0, 7), (1, 7), (0, 7), (3, 7))

OTHER_START = 48

# How many go actions processor 1 needs for its change.
TURNS = {"other store": 3, "other alias store": 3, "other map": 2, "other right": 2}

# Witnesses of a change by another one: first action, address, text, changed cell, text behind a map to frame 2.
CHANGED_PROGRAMS = {
    ("first", "same"): ("p0", 0, "print 1, halt", 1, "print 2, halt"),
    ("first", "second"): ("p0", 15, "print 1, halt", 16, ""),
    ("later", "same"): ("g0", 0, "print 7, print 1, halt", 3, "print 7, print 2, halt"),
    ("later", "second"): ("g0", 14, "print 7, print 1, halt", 17, ""),
}

# Witnesses of a change by the processor itself.
OWN_PROGRAMS = {
    (("later", "same"), ("make", "place", "own store", "do")): (
        (0, "set r0 2, store 7 r0, print 1, halt"),
    ),
    (("later", "same"), ("make", "place", "own alias store", "do")): (
        (0, "set r0 2, store 23 r0, print 1, halt"),
    ),
    (("later", "second"), ("make", "place", "own store", "do")): (
        (10, "set r0 2, store 17 r0, print 1, halt"),
    ),
    (("first", "same"), ("make", "place", "do", "own store", "enter", "do")): (
        (0, "jump 3"),
        (3, "print 1, jumpz 18, set r0 2, store 4 r0, compare r1 r1, jump 3"),
    ),
    (("first", "same"), ("make", "place", "do", "own alias store", "enter", "do")): (
        (0, "jump 3"),
        (3, "print 1, jumpz 18, set r0 2, store 36 r0, compare r1 r1, jump 3"),
    ),
    (("first", "same"), ("make", "place", "do", "own map", "enter", "do")): (
        (0, "jump 16, map 1 2, compare r1 r1, jump 16"),
        (16, "print 1, jumpz 12, jump 2"),
        (32, "print 2, jumpz 12, jump 2"),
    ),
    (("first", "same"), ("make", "place", "do", "own right", "enter", "do")): (
        (0, "jump 16, right 1 6, compare r1 r1, jump 16"),
        (16, "print 1, jumpz 12, jump 2"),
        (32, "print 2, jumpz 12, jump 2"),
    ),
    (("first", "same"), ("make", "place", "do", "level", "enter", "do")): (
        (0, "jump 3"),
        (3, "disable, jumpz 12, lower, compare r1 r1, jump 3"),
    ),
    (("first", "second"), ("make", "place", "do", "own store", "enter", "do")): (
        (0, "jump 15, set r0 2, store 16 r0, compare r1 r1, jump 15"),
        (15, "print 1, jumpz 22, jump 2"),
    ),
    (("first", "same"), ("make", "place", "do", "own store", "follow", "do")): (
        (0, "jump 3"),
        (3, "print 1, jumpz 18, set r0 2, store 4 r0, compare r1 r1, jump 0"),
    ),
}


def changed_moves(action, change):
    """Return the scenario in which another one changes the cell, behind a first action."""
    return ("make", change, "place", "do") if action == "p0" else ("make", "place", change, "do")


def device_witness(target):
    """Return the trial in which the device changes the cell."""
    action, first, text, cell, _ = CHANGED_PROGRAMS[target]
    write = (cell // CELLS, cell % CELLS, 2)
    guest = guest_of_texts([(first, text)], writes=(write,))
    return Trial(guest, MOST_SLOTS, MOST_LONGEST, [action, "d", "g0"])


def other_text(change, cell):
    """Return the text of the program by which processor 1 changes a cell."""
    if change == "other map":
        return "map 0 2, print 9, halt"
    if change == "other right":
        return "right 0 6, print 9, halt"
    address = cell + CELLS if change == "other alias store" else cell
    return f"set r0 2, store {address} r0, print 9, halt"


def other_witness(target, change):
    """Return the trial in which processor 1 changes the cell."""
    action, first, text, cell, mapped_text = CHANGED_PROGRAMS[target]
    programs = [(first, text), (OTHER_START, other_text(change, cell))]
    if change == "other map":
        programs.append((2 * CELLS, mapped_text))
    pages = ALIAS_PAGES if change == "other alias store" else PLAIN_PAGES
    guest = guest_of_texts(programs, pages=pages, second_start=OTHER_START)
    return Trial(guest, MOST_SLOTS, MOST_LONGEST, [action] + ["g1"] * TURNS[change] + ["g0"])


def changed_witness(target, moves):
    """Return the trial of a scenario in which another one changes the cell, or None."""
    if target not in CHANGED_PROGRAMS:
        return None
    action = CHANGED_PROGRAMS[target][0]
    if moves == changed_moves(action, "device write"):
        return device_witness(target)
    changes = list(TURNS) if target[1] == "same" else ["other store"]
    for change in changes:
        if moves == changed_moves(action, change):
            return other_witness(target, change)
    return None


def own_witness(target, moves):
    """Return the trial of a scenario in which the processor itself makes the change."""
    programs = OWN_PROGRAMS[target, moves]
    pages = PLAIN_PAGES
    if "own alias store" in moves:
        pages = ALIAS_PAGES if target == LATER_SAME else FAR_ALIAS_PAGES
    many = 3 if target[0] == "later" else 10
    return Trial(guest_of_texts(programs, pages=pages), MOST_SLOTS, MOST_LONGEST, ["g0"] * many)


def reuse_witness(policy, target, moves):
    """Return the trial of a scenario in which the slot is used again, or None."""
    if (target, moves) == (LATER_SAME, ("make", "place", "reuse", "do")):
        programs = [(0, "print 7, print 1, halt"), (OTHER_START, "print 5, print 6, halt")]
        guest = guest_of_texts(programs, second_start=OTHER_START)
        return Trial(guest, 1, MOST_LONGEST, ["g0", "g1", "g0"])
    if (target, moves) == (FIRST_SAME, ("make", "place", "do", "reuse", "follow", "do")):
        programs = [(0, "print 1, jumpz 10, compare r1 r1, jump 0"), (10, "print 5, jump 4")]
        slots = 4 if "single" in policy else 2
        return Trial(guest_of_texts(programs), slots, MOST_LONGEST, ["g0"] * 11)
    return None


def cell_witness(policy, target, scenario):
    """Return the trial that shows what a target and a scenario say."""
    moves = tuple(scenario)
    if (target, moves) in OWN_PROGRAMS:
        return own_witness(target, moves)
    trial = reuse_witness(policy, target, moves)
    if trial is None:
        trial = changed_witness(target, moves)
    if trial is None:
        raise SettingError("scenario")
    return trial
