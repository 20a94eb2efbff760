"""Points 113 and 114."""

import unittest
from itertools import product

from checks import Checks
from guestlives.handshake import Handshake, stuck_scenario
from guestlives.search import Table

BETWEEN, AMID, WAITING = PLACES = ("between", "amid", "waiting")


def moves_by_words(state, waiting_counts):
    found = []
    for word, place, after in (("begin", BETWEEN, AMID), ("finish", AMID, BETWEEN), ("hit", AMID, WAITING),
                               ("pass", WAITING, BETWEEN)):
        for p in (0, 1):
            other = state[1 - p]
            may = word != "pass" or other == BETWEEN or (other == WAITING and waiting_counts)
            if state[p] == place and may:
                changed = list(state)
                changed[p] = after
                found.append((f"{word} {p}", tuple(changed)))
    return found


class TestHandshake(Checks):
    def test_start(self):
        for counts in (True, False):
            table = Handshake(counts)
            self.assertIsInstance(table, Table)
            self.same_kind(table.start(), (BETWEEN, BETWEEN))

    def test_moves(self):
        table = Handshake(False)
        self.same_kind(table.moves((BETWEEN, BETWEEN)), [("begin 0", (AMID, BETWEEN)), ("begin 1", (BETWEEN, AMID))])
        self.same_kind(table.moves((AMID, AMID)), [
            ("finish 0", (BETWEEN, AMID)), ("finish 1", (AMID, BETWEEN)), ("hit 0", (WAITING, AMID)),
            ("hit 1", (AMID, WAITING))])
        self.same_kind(table.moves((WAITING, BETWEEN)), [("begin 1", (WAITING, AMID)), ("pass 0", (BETWEEN, BETWEEN))])
        self.same_kind(table.moves((BETWEEN, WAITING)), [("begin 0", (AMID, WAITING)), ("pass 1", (BETWEEN, BETWEEN))])
        self.same_kind(table.moves((WAITING, AMID)), [("finish 1", (WAITING, BETWEEN)), ("hit 1", (WAITING, WAITING))])
        self.same_kind(table.moves((WAITING, WAITING)), [])
        self.same_kind(Handshake(True).moves((WAITING, WAITING)),
                       [("pass 0", (BETWEEN, WAITING)), ("pass 1", (WAITING, BETWEEN))])

    def test_all_states(self):
        for counts in (True, False):
            for state in product(PLACES, repeat=2):
                self.same_kind(Handshake(counts).moves(state), moves_by_words(state, counts))

    def test_as_a_table(self):
        for counts in (True, False):
            table = Handshake(counts)
            self.assertIsNone(table.scenario())
            states = table.states()
            self.same_kind(states[:3], [(BETWEEN, BETWEEN), (AMID, BETWEEN), (BETWEEN, AMID)])
            self.assertEqual(sorted(states), sorted(product(PLACES, repeat=2)))

    def test_new_lists(self):
        table = Handshake(True)
        table.moves(table.start()).clear()
        self.assertEqual(len(table.moves(table.start())), 2)


class TestStuckScenario(Checks):
    def test_waiting_does_not_count(self):
        self.same_kind(stuck_scenario(False), ["begin 0", "begin 1", "hit 0", "hit 1"])

    def test_waiting_counts(self):
        self.assertIsNone(stuck_scenario(True))

    def test_the_shortest_and_first_way(self):
        table = Handshake(False)
        ways = [([], table.start())]
        while all(table.moves(state) for _, state in ways):
            ways = [(way + [move], after) for way, state in ways for move, after in table.moves(state)]
        stuck = [way for way, state in ways if not table.moves(state)]
        self.assertEqual(stuck_scenario(False), stuck[0])
        self.assertGreater(len(stuck), 1)

    def test_each_waiting_processor_can_pass_soon(self):
        table = Handshake(True)
        for state in table.states():
            for p in (0, 1):
                if state[p] == WAITING:
                    moves = dict(table.moves(state))
                    behind = moves.get(f"finish {1 - p}", state)
                    self.assertIn(f"pass {p}", dict(table.moves(behind)))

    def test_a_new_list(self):
        stuck_scenario(False).clear()
        self.assertEqual(len(stuck_scenario(False)), 4)


if __name__ == "__main__":
    unittest.main()
