"""The value table: what may become of one value that a host holds back (points 89 to 92)."""

from guestlives.errors import SettingError
from guestlives.search import Table

VALUE_TARGETS = ("cell", "register")
CELL_MOVES = ("store", "seen")
REGISTER_MOVES = ("make last", "make", "make twice", "clobber", "read", "inspect", "fault", "leave", "end")

# For a state and a move the pairs (rule, next state): the first one whose rule the policy has counts,
# and the one without a rule counts in any case.
STEPS = {
    ("flushed", "store"): (("prompt_store", "flushed"), ("", "buffered")),
    ("flushed", "seen"): (("", "flushed"),),
    ("buffered", "seen"): (("", "bad"),),
    ("flushed", "make last"): (("eager", "flushed"), ("flush_exit", "flushed"), ("", "lost")),
    ("flushed", "make"): (("eager", "flushed"), ("", "deferred")),
    ("flushed", "make twice"): (("eager", "flushed"), ("keep_dropped", "deferred"), ("", "dropped")),
    ("flushed", "read"): (("", "flushed"),),
    ("flushed", "inspect"): (("", "flushed"),),
    ("flushed", "fault"): (("", "flushed"),),
    ("deferred", "clobber"): (("flush_source", "flushed"), ("", "clobbered")),
    ("deferred", "read"): (("", "flushed"),),
    ("deferred", "inspect"): (("map_inspect", "deferred"), ("", "bad")),
    ("deferred", "fault"): (("map_fault", "flushed"), ("flush_fault", "flushed"), ("", "bad")),
    ("deferred", "leave"): (("map_leave", "flushed"), ("", "lost")),
    ("deferred", "end"): (("flush_exit", "flushed"), ("", "lost")),
    ("clobbered", "read"): (("", "bad"),),
    ("clobbered", "inspect"): (("", "bad"),),
    ("clobbered", "fault"): (("", "bad"),),
    ("clobbered", "leave"): (("", "lost"),),
    ("clobbered", "end"): (("", "lost"),),
    ("dropped", "inspect"): (("", "bad"),),
    ("dropped", "fault"): (("", "bad"),),
    ("dropped", "leave"): (("", "lost"),),
    ("lost", "read"): (("", "bad"),),
    ("lost", "inspect"): (("", "bad"),),
    ("lost", "fault"): (("", "bad"),),
}

# A move that is named here is not possible with any of its rules.
BARRING_RULES = {"store": ("single", "stop_store"), "make": ("single",), "make twice": ("single",)}


def chosen(rows, policy):
    """Return the next state of the first pair whose rule the policy has or that has no rule."""
    found = [after for rule, after in rows if rule == "" or rule in policy]
    return found[0]


class ValueTable(Table):
    """The table of one value under a policy, with or without the move by which a block is left."""

    def __init__(self, policy, target, *, leaving):
        if target not in VALUE_TARGETS:
            raise SettingError("target")
        super().__init__()
        self.policy = policy
        self.target = target
        self.leaving = leaving

    def start(self):
        """Return the start state."""
        return "flushed"

    def moves(self, state):
        """Return the list of the pairs (move, next state) that are possible in a state."""
        names = CELL_MOVES if self.target == "cell" else REGISTER_MOVES
        pairs = []
        for move in names:
            if (state, move) in STEPS and self.is_allowed(move):
                pairs.append((move, chosen(STEPS[state, move], self.policy)))
        return pairs

    def is_allowed(self, move):
        """Tell whether the policy and the table allow a move."""
        if move == "leave":
            return self.leaving
        return not any(rule in self.policy for rule in BARRING_RULES.get(move, ()))
