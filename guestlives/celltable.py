"""The cell table: what may happen to one captured cell of a block (points 81 to 86)."""

from guestlives.errors import SettingError
from guestlives.search import BAD, Table

TARGETS = (("first", "same"), ("later", "same"), ("first", "second"), ("later", "second"))
MOVES = (
    "make",
    "place",
    "enter",
    "follow",
    "do",
    "own store",
    "own alias store",
    "other store",
    "other alias store",
    "device write",
    "own map",
    "other map",
    "own right",
    "other right",
    "level",
    "reuse",
)

# The state is (block, fresh, level_same, linked, inside).
START = ("none", True, True, False, False)

# The rules with all of which a policy notices a change.
NOTICING_RULES = {
    "own store": ("invalidate_store",),
    "own alias store": ("invalidate_store", "track_frames"),
    "other store": ("invalidate_store",),
    "other alias store": ("invalidate_store", "track_frames"),
    "device write": ("invalidate_device", "track_frames"),
    "own map": ("invalidate_map",),
    "other map": ("invalidate_map",),
    "own right": ("invalidate_rights",),
    "other right": ("invalidate_rights",),
}
OWN_STORES = ("own store", "own alias store")
OWN_PAGE_CHANGES = ("own map", "own right")
OTHER_CHANGES = ("other store", "other alias store", "other map", "other right")


def in_slot(state):
    """Tell whether the block is in its slot."""
    return state[0] in ("valid", "invalid")


def is_let_in(policy, state):
    """Tell whether the rules let the processor into the block in the slot."""
    block, fresh, level_same, _, _ = state
    if "key_level" in policy and not level_same:
        return False
    return "check_entry" not in policy or (fresh and level_same and block != "reused")


def make(table, state):
    """The block is made."""
    return ("prepared",) + state[1:] if state[0] == "none" else None


def place(table, state):
    """The block is put into its slot and entered."""
    block, fresh, level_same, _, _ = state
    if block != "prepared" or ("check_entry" in table.policy and not fresh):
        return None
    return ("valid", fresh, level_same, "no_links" not in table.policy, True)


def enter(table, state):
    """The block is found by lookup and entered."""
    block, fresh, level_same, linked, inside = state
    if block != "valid" or inside or not is_let_in(table.policy, state):
        return None
    return (block, fresh, level_same, linked or "no_links" not in table.policy, True)


def follow(table, state):
    """The block is entered by a link."""
    block, fresh, level_same, linked, inside = state
    if not linked or inside or not (in_slot(state) or block == "reused"):
        return None
    return (block, fresh, level_same, linked, True) if is_let_in(table.policy, state) else None


def do(table, state):
    """The instruction of the cell is done."""
    block, fresh, level_same, linked, inside = state
    if not inside:
        return None
    if block == "reused" or not fresh or not level_same:
        return BAD
    return (block, fresh, level_same, linked, False)


def level(table, state):
    """The processor changes its level."""
    block, fresh, level_same, linked, inside = state
    if inside or not in_slot(state):
        return None
    return (block, fresh, not level_same, linked, inside)


def reuse(table, state):
    """The slot gets another block."""
    _, fresh, level_same, linked, inside = state
    if not in_slot(state):
        return None
    if inside and (table.target[0] != "later" or not table.other or "hold_slot" in table.policy):
        return None
    return ("reused", fresh, level_same, linked and "clear_links" not in table.policy, inside)


HOST_MOVES = {"make": make, "place": place, "enter": enter, "follow": follow, "do": do, "level": level, "reuse": reuse}


def is_own(move):
    """Tell whether a change is done by the processor itself."""
    return move in OWN_STORES or move in OWN_PAGE_CHANGES


def can_change(table, move, state):
    """Tell whether a change is possible in a state."""
    if not in_slot(state) and (is_own(move) or state[0] != "prepared"):
        return False
    if (move in OTHER_CHANGES and not table.other) or (move == "device write" and not table.device):
        return False
    if not state[4]:
        return True
    if move in OWN_PAGE_CHANGES or table.target[0] != "later":
        return False
    return move not in OWN_STORES or "stop_store" not in table.policy


def notices(table, move):
    """Tell whether the policy notices a change."""
    if table.target[1] == "second" and "track_second" not in table.policy:
        return False
    return all(rule in table.policy for rule in NOTICING_RULES[move])


def changed(table, move, state):
    """Return the state behind a change."""
    block, fresh, level_same, linked, inside = state
    if not notices(table, move):
        return (block, not fresh, level_same, linked, inside)
    if block == "prepared":
        return START if "track_prepared" in table.policy else (block, not fresh, level_same, linked, inside)
    leaving = "leave_self" if is_own(move) else "leave_other"
    return (
        "invalid",
        not fresh,
        level_same,
        linked and "cut_links" not in table.policy,
        inside and leaving not in table.policy,
    )


def state_behind(table, move, state):
    """Return the state behind a move, or None if the move is not possible."""
    if move in NOTICING_RULES:
        return changed(table, move, state) if can_change(table, move, state) else None
    action = HOST_MOVES[move]
    return action(table, state)


class CellTable(Table):
    """The table of one captured cell under a policy, in an environment."""

    def __init__(self, policy, target, *, other=True, device=True):
        if target not in TARGETS:
            raise SettingError("target")
        super().__init__()
        self.policy = policy
        self.target = target
        self.other = other
        self.device = device

    def start(self):
        """Return the start state."""
        return START

    def moves(self, state):
        """Return the list of the pairs (move, next state) that are possible in a state."""
        pairs = []
        for move in MOVES:
            after = state_behind(self, move, state)
            if after is not None:
                pairs.append((move, after))
        return pairs
