"""Tables of states and moves, and their shortest ways to something wrong (points 79 and 80)."""

BAD = "bad"


def way_back(found, state):
    """Return the moves from the start to a state, by the pairs (state before, move) of the states found."""
    moves = []
    while found[state] is not None:
        state, move = found[state]
        moves.append(move)
    return moves[::-1]


class Table:
    """A table that is given by rows (state, move, next state)."""

    def __init__(self, first="start", rows=()):
        self.first = first
        self.pairs = {}
        for state, move, after in rows:
            self.pairs.setdefault(state, []).append((move, after))

    def start(self):
        """Return the start state."""
        return self.first

    def moves(self, state):
        """Return the list of the pairs (move, next state) that are possible in a state."""
        return list(self.pairs.get(state, []))

    def scenario(self):
        """Return the first of the shortest lists of moves from the start to "bad", or None."""
        found = {self.start(): None}
        waiting = [self.start()]
        at = 0
        while at < len(waiting):
            state = waiting[at]
            at = at + 1
            for move, after in self.moves(state):
                if after == BAD:
                    return way_back(found, state) + [move]
                if after not in found:
                    found[after] = (state, move)
                    waiting.append(after)
        return None

    def states(self):
        """Return the list of the states that can be reached, in breadth-first order."""
        found = {self.start(): True}
        waiting = [self.start()]
        at = 0
        while at < len(waiting):
            for _, after in self.moves(waiting[at]):
                if after != BAD and after not in found:
                    found[after] = True
                    waiting.append(after)
            at = at + 1
        return waiting
