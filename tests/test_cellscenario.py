"""Points 81 (targets_of), 86 and 98."""

import unittest
from itertools import product
from random import Random

from checks import Checks
from guestlives.cellscenario import cell_scenario, targets_of
from guestlives.celltable import TARGETS, CellTable
from guestlives.policies import CODE_RULES
from guestlives.policy import Policy
from wording import code_is_safe

FIRST, LATER = ("first", "same"), ("later", "same")


class TestTargetsOf(Checks):
    def test_targets(self):
        for names, wanted in (
            ((), TARGETS), (("single",), TARGETS[::2]), (("stop_page",), TARGETS[:2]),
            (("single", "stop_page"), TARGETS[:1]), (("stop_store", "check_entry", "no_links"), TARGETS),
        ):
            self.same_kind(targets_of(Policy(names)), list(wanted))
        targets_of(Policy()).clear()
        self.assertEqual(len(targets_of(Policy())), 4)


class TestCellScenario(Checks):
    def test_the_examples_of_the_document(self):
        self.same_kind(cell_scenario(Policy.empty()), (FIRST, ["make", "other store", "place", "do"]))
        self.same_kind(cell_scenario(Policy(["check_entry"]), other=False),
                       (LATER, ["make", "place", "own store", "do"]))

    def test_environments(self):
        for other, device, wanted in (
            (True, True, ["make", "other store", "place", "do"]), (True, False, ["make", "other store", "place", "do"]),
            (False, True, ["make", "device write", "place", "do"]),
            (False, False, ["make", "place", "do", "own store", "enter", "do"]),
        ):
            self.same_kind(cell_scenario(Policy.empty(), other=other, device=device), (FIRST, wanted))

    def test_further_scenarios(self):
        base = ("invalidate_store", "invalidate_map", "invalidate_rights", "track_frames", "track_second", "key_level",
                "leave_self", "leave_other", "hold_slot", "invalidate_device", "track_prepared", "cut_links",
                "clear_links")
        for without, wanted in (
            ("invalidate_store", (FIRST, ["make", "other store", "place", "do"])),
            ("track_frames", (FIRST, ["make", "other alias store", "place", "do"])),
            ("invalidate_map", (FIRST, ["make", "other map", "place", "do"])),
            ("invalidate_rights", (FIRST, ["make", "other right", "place", "do"])),
            ("invalidate_device", (FIRST, ["make", "device write", "place", "do"])),
            ("track_second", (("first", "second"), ["make", "other store", "place", "do"])),
            ("track_prepared", (FIRST, ["make", "other store", "place", "do"])),
            ("leave_self", (LATER, ["make", "place", "own store", "do"])),
            ("leave_other", (LATER, ["make", "place", "other store", "do"])),
            ("hold_slot", (LATER, ["make", "place", "reuse", "do"])),
            ("key_level", (FIRST, ["make", "place", "do", "level", "enter", "do"])),
            ("cut_links", (FIRST, ["make", "place", "do", "own store", "follow", "do"])),
            ("clear_links", (FIRST, ["make", "place", "do", "reuse", "follow", "do"])),
            ("", None),
        ):
            policy = Policy(base) - Policy([without] if without else [])
            self.assertEqual(cell_scenario(policy), wanted)

    def test_the_first_target_that_has_one(self):
        for names in ((), ("check_entry",), ("check_entry", "invalidate_store"), ("single", "check_entry")):
            policy = Policy(names)
            found = [(target, CellTable(policy, target).scenario()) for target in targets_of(policy)]
            found = [pair for pair in found if pair[1] is not None]
            self.assertEqual(cell_scenario(policy), found[0] if found else None)
        # Only a target that blocks of the policy can have counts.
        self.assertIsNone(cell_scenario(Policy(["single", "check_entry"])))
        self.assertIsNotNone(CellTable(Policy(["single", "check_entry"]), LATER).scenario())

    def test_by_the_condition_of_the_document(self):
        random = Random(5)
        for _ in range(400):
            share = random.choice((5, 7, 9))
            names = [name for name in CODE_RULES if random.randrange(10) < share]
            for other, device in product((True, False), repeat=2):
                found = cell_scenario(Policy(names), other=other, device=device)
                self.assertIs(found is None, bool(code_is_safe(set(names), other, device)), names)

    def test_keywords(self):
        with self.assertRaises(TypeError):
            cell_scenario(Policy(), True)


if __name__ == "__main__":
    unittest.main()
