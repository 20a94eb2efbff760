"""Points 81 to 86: the moves of the cell table, each over all states and all rules that matter to it."""

import unittest
from itertools import combinations, product

from checks import Checks
from guestlives.celltable import MOVES, TARGETS, CellTable
from guestlives.errors import SettingError
from guestlives.policy import RULES, Policy
from guestlives.search import Table

BLOCKS = ("none", "prepared", "valid", "invalid", "reused")
FLAGS = (False, True)
STATES = tuple(product(BLOCKS, FLAGS, FLAGS, FLAGS, FLAGS))
START = ("none", True, True, False, False)
NAMES = (
    "make", "place", "enter", "follow", "do", "own store", "own alias store", "other store", "other alias store",
    "device write", "own map", "other map", "own right", "other right", "level", "reuse",
)
FIRST, LATER = ("first", "same"), ("later", "same")


def subsets(names):
    for count in range(len(names) + 1):
        yield from combinations(names, count)


class Tables(Checks):
    def each(self, move, names, targets=TARGETS):
        """Each (rules, target, other, device, state, what the table says of the move there)."""
        environments = ((True, False), (False, True))
        for rules, target, (other, device) in product(tuple(subsets(names)), targets, environments):
            table = CellTable(Policy(rules), target, other=other, device=device)
            for state in STATES:
                yield rules, target, other, device, state, dict(table.moves(state)).get(move)

    def agree(self, found, wanted, *told):
        if wanted is None:
            self.assertIsNone(found, told)
        else:
            self.same_kind(found, wanted)


class TestTable(Tables):
    def test_constants(self):
        self.same_kind(TARGETS, (FIRST, LATER, ("first", "second"), ("later", "second")))
        self.same_kind(MOVES, NAMES)
        self.assertTrue(issubclass(CellTable, Table))

    def test_targets(self):
        for policy in (Policy(), Policy.full()):
            for target in TARGETS:
                self.same_kind(CellTable(policy, target).start(), START)
            for target in (("first", "first"), ("same", "first"), ("first",), ("last", "same"), ("first", "same", "x")):
                self.refuses(SettingError, {"name": "target"}, CellTable, policy, target)
        with self.assertRaises(TypeError):
            CellTable(Policy(), FIRST, True)

    def test_moves_stand_in_order_and_lists_are_new(self):
        for target, rules in product(TARGETS, ((), ("check_entry",), RULES)):
            table = CellTable(Policy(rules), target)
            for state in STATES:
                moves = table.moves(state)
                self.assertIs(type(moves), list)
                names = [move for move, _ in moves]
                self.assertEqual(names, [name for name in NAMES if name in names])
                moves.clear()
                self.assertEqual(len(table.moves(state)), len(names))

    def test_both_environments_hold_by_default(self):
        names = [move for move, _ in CellTable(Policy(), LATER).moves(("valid", True, True, False, True))]
        self.assertEqual(names, ["do", "own store", "own alias store", "other store", "other alias store",
                                 "device write", "other map", "other right", "reuse"])
        table = CellTable(Policy(), LATER, other=False, device=False)
        self.assertEqual([move for move, _ in table.moves(("valid", True, True, False, True))],
                         ["do", "own store", "own alias store"])

    def test_the_whole_table_of_a_policy(self):
        table = CellTable(Policy(["check_entry", "no_links", "single"]), FIRST, other=False, device=False)
        states = table.states()
        self.assertEqual(states[:4], [START, ("prepared", True, True, False, False), ("valid", True, True, False, True),
                                      ("valid", True, True, False, False)])
        self.assertEqual(len(states), 11)
        self.assertIsNone(table.scenario())


class TestHostMoves(Tables):
    def test_make(self):
        for _, _, _, _, state, found in self.each("make", ("check_entry", "single")):
            self.agree(found, ("prepared",) + state[1:] if state[0] == "none" else None, state)

    def test_place(self):
        for rules, _, _, _, state, found in self.each("place", ("check_entry", "no_links")):
            block, fresh, level_same, _, _ = state
            wanted = None
            if block == "prepared" and (fresh or "check_entry" not in rules):
                wanted = ("valid", fresh, level_same, "no_links" not in rules, True)
            self.agree(found, wanted, rules, state)

    def test_enter(self):
        for rules, _, _, _, state, found in self.each("enter", ("check_entry", "no_links", "key_level")):
            block, fresh, level_same, linked, inside = state
            possible = block == "valid" and not inside
            if "key_level" in rules:
                possible = possible and level_same
            if "check_entry" in rules:
                possible = possible and fresh and level_same
            linked = linked if "no_links" in rules else True
            self.agree(found, (block, fresh, level_same, linked, True) if possible else None, rules, state)

    def test_follow(self):
        for rules, _, _, _, state, found in self.each("follow", ("check_entry", "no_links", "key_level")):
            block, fresh, level_same, linked, inside = state
            possible = linked and not inside and block in ("valid", "invalid", "reused")
            if "key_level" in rules:
                possible = possible and level_same
            if "check_entry" in rules:
                possible = possible and fresh and level_same and block != "reused"
            self.agree(found, (block, fresh, level_same, linked, True) if possible else None, rules, state)

    def test_do(self):
        for rules, _, _, _, state, found in self.each("do", ("check_entry", "leave_self")):
            block, fresh, level_same, linked, inside = state
            wanted = "bad" if block == "reused" or not fresh or not level_same else state[:4] + (False,)
            self.agree(found, wanted if inside else None, rules, state)

    def test_level(self):
        for rules, _, _, _, state, found in self.each("level", ("key_level", "check_entry")):
            block, fresh, level_same, linked, inside = state
            possible = block in ("valid", "invalid") and not inside
            self.agree(found, (block, fresh, not level_same, linked, inside) if possible else None, rules, state)

    def test_reuse(self):
        for rules, target, other, _, state, found in self.each("reuse", ("hold_slot", "clear_links", "cut_links")):
            block, fresh, level_same, linked, inside = state
            possible = block in ("valid", "invalid")
            if inside:
                possible = possible and target[0] == "later" and other and "hold_slot" not in rules
            linked = False if "clear_links" in rules else linked
            self.agree(found, ("reused", fresh, level_same, linked, inside) if possible else None, rules, state)


class TestChanges(Tables):
    def possible(self, move, rules, target, other, device, state):
        """Point 84."""
        block, inside = state[0], state[4]
        if move.startswith("own"):
            found = block in ("valid", "invalid")
        else:
            found = block in ("prepared", "valid", "invalid") and (device if move == "device write" else other)
        if inside:
            found = found and target[0] == "later" and move not in ("own map", "own right")
            if move in ("own store", "own alias store"):
                found = found and "stop_store" not in rules
        return found

    def check(self, move, needed):
        own = ("leave_self", "stop_store") if move in ("own store", "own alias store") else ("leave_self",)
        names = needed + ("track_second", "cut_links")
        names = names + (own if move.startswith("own") else ("leave_other", "track_prepared"))
        leaving = "leave_self" if move.startswith("own") else "leave_other"
        for rules, target, other, device, state, found in self.each(move, names):
            if not self.possible(move, rules, target, other, device, state):
                self.assertIsNone(found, (move, rules, target, state))
                continue
            block, fresh, level_same, linked, inside = state
            wanted = (block, not fresh, level_same, linked, inside)
            if set(needed) <= set(rules) and (target[1] == "same" or "track_second" in rules):
                if block != "prepared":
                    wanted = ("invalid", not fresh, level_same, linked and "cut_links" not in rules,
                              inside and leaving not in rules)
                elif "track_prepared" in rules:
                    wanted = START
            self.same_kind(found, wanted)

    def test_plain_stores(self):
        self.check("own store", ("invalidate_store",))
        self.check("other store", ("invalidate_store",))

    def test_alias_stores(self):
        self.check("own alias store", ("invalidate_store", "track_frames"))
        self.check("other alias store", ("invalidate_store", "track_frames"))

    def test_device_writes(self):
        self.check("device write", ("invalidate_device", "track_frames"))

    def test_maps(self):
        self.check("own map", ("invalidate_map",))
        self.check("other map", ("invalidate_map",))

    def test_rights(self):
        self.check("own right", ("invalidate_rights",))
        self.check("other right", ("invalidate_rights",))

    def test_stop_store_keeps_from_own_stores_alone(self):
        table = CellTable(Policy(["stop_store"]), LATER)
        self.assertEqual([move for move, _ in table.moves(("valid", True, True, False, True))],
                         ["do", "other store", "other alias store", "device write", "other map", "other right", "reuse"])

    def test_the_other_rule_of_leaving_does_not_count(self):
        for move, rule in (("own store", "leave_other"), ("other store", "leave_self")):
            table = CellTable(Policy(["invalidate_store", rule]), LATER)
            self.assertEqual(dict(table.moves(("valid", True, True, True, True)))[move],
                             ("invalid", False, True, True, True))


if __name__ == "__main__":
    unittest.main()
