"""The handshake of two processors that write into each other's blocks (points 113 and 114)."""

from guestlives.limits import PROCESSORS
from guestlives.search import BAD, Table

# For each move the place at which a processor must be and the place at which it is then.
PLACES = {
    "begin": ("between", "amid"),
    "finish": ("amid", "between"),
    "hit": ("amid", "waiting"),
    "pass": ("waiting", "between"),
}


class Handshake(Table):
    """The table of the handshake; its states are the places of the two processors."""

    def __init__(self, waiting_counts):
        super().__init__(("between", "between"))
        self.waiting_counts = waiting_counts

    def start(self):
        """Return the state in which both are between instructions."""
        return self.first

    def moves(self, state):
        """Return the list of the pairs (move, next state) that are possible in a state."""
        found = []
        for word, (place, after) in PLACES.items():
            for p in range(PROCESSORS):
                if state[p] == place and (word != "pass" or self.lets_pass(state[1 - p])):
                    changed = (after, state[1]) if p == 0 else (state[0], after)
                    found.append((f"{word} {p}", changed))
        return found

    def lets_pass(self, place):
        """Tell whether a processor at a place lets the other one pass."""
        return place == "between" or (place == "waiting" and self.waiting_counts)


def stuck_scenario(waiting_counts):
    """Return the first of the shortest lists of moves to a stuck state, or None."""
    table = Handshake(waiting_counts)
    rows = []
    for state in table.states():
        for move, after in table.moves(state):
            rows.append((state, move, after if len(table.moves(after)) > 0 else BAD))
    return Table(table.start(), rows).scenario()
