"""Points 79 and 80."""

import unittest
from itertools import product

from checks import Checks
from guestlives.search import BAD, Table


class Walk(Table):
    """A table of its own kind: steps on a grid whose corner is bad."""

    def start(self):
        return ("at", False, False)

    def moves(self, state):
        _, across, up = state
        found = []
        if not up:
            found.append(("up", BAD if across else ("at", across, True)))
        if not across:
            found.append(("across", BAD if up else ("at", True, up)))
        return found


class TestTable(Checks):
    def test_start_and_moves(self):
        rows = [("a", "m", "b"), ("b", "m", "a"), ("a", "k", "bad"), ("a", "l", "a")]
        for given in (rows, tuple(rows), [list(row) for row in rows]):
            table = Table("a", given)
            self.assertEqual(table.start(), "a")
            self.same_kind(table.moves("a"), [("m", "b"), ("k", "bad"), ("l", "a")])
            self.same_kind(table.moves("b"), [("m", "a")])
            self.same_kind(table.moves("c"), [])
        table.moves("a").clear()
        self.assertEqual(len(table.moves("a")), 3)
        table.moves("c").append("x")
        self.assertEqual(table.moves("c"), [])
        self.assertEqual(BAD, "bad")

    def test_defaults(self):
        table = Table()
        self.assertEqual((table.start(), table.moves("start"), table.scenario(), table.states()),
                         ("start", [], None, ["start"]))
        self.assertEqual(Table("x").start(), "x")
        self.assertEqual(Table(rows=[("start", "m", "bad")]).scenario(), ["m"])

    def test_rows_are_copied(self):
        rows = [("a", "m", "b")]
        table = Table("a", rows)
        rows.append(("a", "k", "bad"))
        self.assertIsNone(table.scenario())


class TestScenario(Checks):
    def test_no_way_to_bad(self):
        self.assertIsNone(Table("a", [("a", "m", "b"), ("b", "m", "a"), ("c", "m", "bad")]).scenario())

    def test_one_move(self):
        self.same_kind(Table("a", [("a", "m", "b"), ("b", "k", "bad"), ("a", "l", "bad")]).scenario(), ["l"])

    def test_a_shortest_list(self):
        rows = [("a", "x", "b"), ("b", "x", "c"), ("c", "x", "bad"), ("a", "y", "d"), ("d", "y", "bad")]
        self.same_kind(Table("a", rows).scenario(), ["y", "y"])

    def test_the_first_of_several(self):
        rows = [("a", "z", "b"), ("a", "y", "c"), ("c", "a", "bad"), ("b", "q", "d"), ("b", "p", "bad"),
                ("b", "b", "bad")]
        self.same_kind(Table("a", rows).scenario(), ["z", "p"])
        rows = [("a", "z", "b"), ("a", "y", "c"), ("b", "m", "d"), ("c", "m", "d"), ("c", "k", "e"), ("e", "m", "bad"),
                ("d", "n", "bad")]
        self.same_kind(Table("a", rows).scenario(), ["z", "m", "n"])

    def test_moves_that_stay(self):
        self.same_kind(Table("a", [("a", "m", "a"), ("a", "k", "b"), ("b", "m", "b"), ("b", "k", "bad")]).scenario(),
                       ["k", "k"])

    def test_a_new_list(self):
        table = Table("a", [("a", "m", "bad")])
        table.scenario().append("x")
        self.assertEqual(table.scenario(), ["m"])

    def test_a_table_that_computes_its_moves(self):
        self.same_kind(Walk().scenario(), ["up", "across"])
        self.same_kind(Walk().states(), [("at", False, False), ("at", False, True), ("at", True, False)])

    def test_against_all_lists_of_moves(self):
        letters = "abcd"
        for number in range(60):
            rows = []
            for at, (state, move) in enumerate(product(letters, "xyz")):
                choice = (number * 7 + at * at * (number + 3)) % 9
                if choice < 5:
                    rows.append((state, move, (letters + "b")[choice] if (choice + number) % 4 else "bad"))
            table = Table("a", rows)
            self.assertEqual(table.scenario(), first_way(table), rows)

    def test_a_long_way(self):
        rows = [(f"s{number}", "m", f"s{number + 1}") for number in range(3000)] + [("s3000", "k", "bad")]
        self.assertEqual(Table("s0", rows).scenario(), ["m"] * 3000 + ["k"])
        self.assertEqual(len(Table("s0", rows).states()), 3001)


def first_way(table):
    """The scenario by trying all lists of moves, shorter ones first, each in the order of the moves."""
    ways = [([], table.start())]
    for _ in range(6):
        longer = []
        for way, state in ways:
            for move, after in table.moves(state):
                if after == "bad":
                    return way + [move]
                longer.append((way + [move], after))
        ways = longer
    return None


class TestStates(Checks):
    def test_breadth_first(self):
        rows = [("a", "m", "c"), ("a", "k", "b"), ("c", "m", "d"), ("b", "m", "e"), ("c", "k", "bad"), ("d", "m", "a"),
                ("e", "m", "f"), ("d", "k", "g"), ("x", "m", "y")]
        self.same_kind(Table("a", rows).states(), ["a", "c", "b", "d", "e", "g", "f"])

    def test_each_once_and_without_bad(self):
        rows = [("a", "m", "b"), ("a", "k", "b"), ("b", "m", "bad"), ("b", "k", "b")]
        self.same_kind(Table("a", rows).states(), ["a", "b"])
        self.same_kind(Table("a", [("a", "m", "bad")]).states(), ["a"])


if __name__ == "__main__":
    unittest.main()
