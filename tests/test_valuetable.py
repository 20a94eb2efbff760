"""Points 89 to 92."""

import unittest
from itertools import combinations, product

from checks import Checks
from guestlives.errors import SettingError
from guestlives.policies import VALUE_RULES
from guestlives.policy import RULES, Policy
from guestlives.search import Table
from guestlives.valuetable import REGISTER_MOVES, VALUE_TARGETS, ValueTable

NAMES = ("make last", "make", "make twice", "clobber", "read", "inspect", "fault", "leave", "end")
STATES = ("flushed", "deferred", "clobbered", "dropped", "lost")


def subsets(names):
    for count in range(len(names) + 1):
        yield from combinations(names, count)


class TestTable(Checks):
    def test_constants(self):
        self.same_kind(VALUE_TARGETS, ("cell", "register"))
        self.same_kind(REGISTER_MOVES, NAMES)
        self.assertTrue(issubclass(ValueTable, Table))

    def test_attributes(self):
        policy = Policy()
        for target, leaving in product(VALUE_TARGETS, (True, False)):
            table = ValueTable(policy, target, leaving=leaving)
            self.assertIs(table.policy, policy)
            self.same_kind((table.target, table.leaving, table.start()), (target, leaving, "flushed"))
        with self.assertRaises(TypeError):
            ValueTable(policy, "cell")
        with self.assertRaises(TypeError):
            ValueTable(policy, "cell", True)

    def test_targets(self):
        for target in ("", "flags", "cells", "Cell", "flushed"):
            self.refuses(SettingError, {"name": "target"}, ValueTable, Policy(), target, leaving=True)

    def test_lists_are_new(self):
        for target in VALUE_TARGETS:
            table = ValueTable(Policy(), target, leaving=True)
            count = len(table.moves("flushed"))
            self.assertIs(type(table.moves("flushed")), list)
            table.moves("flushed").clear()
            self.assertEqual(len(table.moves("flushed")), count)


class TestCell(Checks):
    def test_moves(self):
        for rules in subsets(("prompt_store", "single", "stop_store", "eager")):
            for leaving in (True, False):
                table = ValueTable(Policy(rules), "cell", leaving=leaving)
                wanted = [("seen", "flushed")]
                if "single" not in rules and "stop_store" not in rules:
                    wanted.insert(0, ("store", "flushed" if "prompt_store" in rules else "buffered"))
                self.same_kind(table.moves("flushed"), wanted)
                self.same_kind(table.moves("buffered"), [("seen", "bad")])


def after(move, state, rules, leaving):
    """Point 92: the next state, or None."""
    flushed = "flushed" if state == "flushed" else None
    if move == "make last":
        return flushed if {"eager", "flush_exit"} & rules else flushed and "lost"
    if move in ("make", "make twice"):
        deferred = "dropped" if move == "make twice" and "keep_dropped" not in rules else "deferred"
        made = flushed if "eager" in rules else flushed and deferred
        return None if "single" in rules else made
    if move == "leave" and not leaving:
        return None
    kept = {"clobber": ("flush_source", "flushed", "clobbered"), "inspect": ("map_inspect", "deferred", "bad"),
            "leave": ("map_leave", "flushed", "lost"), "end": ("flush_exit", "flushed", "lost")}
    if state == "deferred" and move in kept:
        rule, good, wrong = kept[move]
        return good if rule in rules else wrong
    if state == "deferred":
        return "bad" if move == "fault" and not {"map_fault", "flush_fault"} & rules else "flushed"
    rows = {
        "read": {"flushed": "flushed", "clobbered": "bad", "lost": "bad"},
        "inspect": {"flushed": "flushed", "clobbered": "bad", "dropped": "bad", "lost": "bad"},
        "fault": {"flushed": "flushed", "clobbered": "bad", "dropped": "bad", "lost": "bad"},
        "leave": {"clobbered": "lost", "dropped": "lost"}, "end": {"clobbered": "lost"},
    }
    return rows.get(move, {}).get(state)


class TestRegister(Checks):
    def test_all_moves_of_all_policies(self):
        for names in subsets(VALUE_RULES + ("single",)):
            for leaving, state in product((True, False), STATES):
                found = ValueTable(Policy(names), "register", leaving=leaving).moves(state)
                rows = [(move, after(move, state, set(names), leaving)) for move in NAMES]
                self.assertEqual(found, [row for row in rows if row[1] is not None], (names, leaving, state))

    def test_the_empty_policy(self):
        table = ValueTable(Policy(), "register", leaving=True)
        self.same_kind([table.moves(state) for state in STATES], [
            [("make last", "lost"), ("make", "deferred"), ("make twice", "dropped"), ("read", "flushed"),
             ("inspect", "flushed"), ("fault", "flushed")],
            [("clobber", "clobbered"), ("read", "flushed"), ("inspect", "bad"), ("fault", "bad"), ("leave", "lost"),
             ("end", "lost")],
            [("read", "bad"), ("inspect", "bad"), ("fault", "bad"), ("leave", "lost"), ("end", "lost")],
            [("inspect", "bad"), ("fault", "bad"), ("leave", "lost")],
            [("read", "bad"), ("inspect", "bad"), ("fault", "bad")],
        ])
        self.assertEqual(table.states(), ["flushed", "lost", "deferred", "dropped", "clobbered"])

    def test_the_full_policy(self):
        for leaving in (True, False):
            table = ValueTable(Policy(RULES), "register", leaving=leaving)
            self.same_kind(table.states(), ["flushed"])
            self.assertIsNone(table.scenario())

    def test_each_rule(self):
        for names, state, move, wanted in (
            (("eager",), "flushed", "make last", "flushed"), (("flush_exit",), "flushed", "make last", "flushed"),
            (("eager",), "flushed", "make", "flushed"), (("keep_dropped",), "flushed", "make twice", "deferred"),
            (("flush_source",), "deferred", "clobber", "flushed"), (("map_inspect",), "deferred", "inspect", "deferred"),
            (("map_fault",), "deferred", "fault", "flushed"), (("flush_fault",), "deferred", "fault", "flushed"),
            (("map_leave",), "deferred", "leave", "flushed"), (("flush_exit",), "deferred", "end", "flushed"),
        ):
            self.assertEqual(dict(ValueTable(Policy(names), "register", leaving=True).moves(state))[move], wanted)
        self.assertNotIn("make", dict(ValueTable(Policy(["single"]), "register", leaving=True).moves("flushed")))
        self.assertNotIn("leave", dict(ValueTable(Policy(), "register", leaving=False).moves("deferred")))


if __name__ == "__main__":
    unittest.main()
