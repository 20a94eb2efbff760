"""Points 87 and 88."""

import unittest
from itertools import product
from random import Random

from checks import Checks, guest_of_texts
from guestlives.cellscenario import cell_scenario
from guestlives.cellwitness import cell_witness
from guestlives.celltable import MOVES, TARGETS
from guestlives.errors import SettingError
from guestlives.guest import PLAIN_PAGES
from guestlives.policies import CODE_RULES
from guestlives.policy import Policy
from guestlives.trial import Trial

FIRST, LATER, FIRST_SECOND, LATER_SECOND = TARGETS
ALIAS = ((0, 7), (0, 7), (2, 7), (3, 7))
FAR_ALIAS = ((0, 7), (1, 7), (0, 7), (3, 7))
OTHERS = ("other store", "other alias store", "device write", "other map", "other right")
G0 = ("g0",)
VALUES = ("eager", "prompt_store")
MAPPED = ("flush_exit", "flush_source", "keep_dropped", "map_inspect", "map_fault", "map_leave", "prompt_store",
          "poll_entry")


def prepared(change):
    return ("make", change, "place", "do")


def inside(change):
    return ("make", "place", change, "do")


def entered(change):
    return ("make", "place", "do", change, "enter", "do")


class Witnesses(Checks):
    def witness(self, target, scenario, wanted, rules=()):
        """The witness is the wanted trial, for scenarios given as lists and as tuples."""
        for given in (list(scenario), tuple(scenario)):
            trial = cell_witness(Policy(rules), target, given)
            self.assertIsInstance(trial, Trial)
            self.same_kind(trial.key(), wanted.key())

    def alone(self, target, scenario, programs, count, pages=PLAIN_PAGES):
        guest = guest_of_texts(programs, starts=(programs[0][0], None), pages=pages)
        for rules in ((), ("single",), Policy.full()):
            self.witness(target, scenario, Trial(guest, 8, 8, G0 * count), rules)

    def others(self, target, shape, first, programs, second, schedule, pages=PLAIN_PAGES):
        guest = guest_of_texts(programs + [(48, second)], starts=(programs[0][0], 48), pages=pages)
        self.witness(target, shape, Trial(guest, 8, 8, (first,) + ("g1",) * schedule + G0))


class TestOthers(Witnesses):
    SHAPES = {
        FIRST: (prepared, "p0", 0, "print 1; halt", 1), FIRST_SECOND: (prepared, "p0", 15, "print 1; halt", 16),
        LATER: (inside, "g0", 0, "print 7; print 1; halt", 3),
        LATER_SECOND: (inside, "g0", 14, "print 7; print 1; halt", 17),
    }

    def test_other_store(self):
        for target, (shape, first, address, text, cell) in self.SHAPES.items():
            second = f"set r0 2; store {cell} r0; print 9; halt"
            self.others(target, shape("other store"), first, [(address, text)], second, 3)

    def test_device_write(self):
        for target, (shape, first, address, text, cell) in self.SHAPES.items():
            guest = guest_of_texts([(address, text)], starts=(address, None), writes=((cell // 16, cell % 16, 2),))
            self.witness(target, shape("device write"), Trial(guest, 8, 8, (first, "d", "g0")))

    def test_other_alias_store(self):
        for target, cell in ((FIRST, 17), (LATER, 19)):
            shape, first, address, text, _ = self.SHAPES[target]
            second = f"set r0 2; store {cell} r0; print 9; halt"
            self.others(target, shape("other alias store"), first, [(address, text)], second, 3, ALIAS)

    def test_other_map(self):
        for target, mapped in ((FIRST, "print 2; halt"), (LATER, "print 7; print 2; halt")):
            shape, first, address, text, _ = self.SHAPES[target]
            self.others(target, shape("other map"), first, [(address, text), (32, mapped)],
                        "map 0 2; print 9; halt", 2)

    def test_other_right(self):
        for target in (FIRST, LATER):
            shape, first, address, text, _ = self.SHAPES[target]
            self.others(target, shape("other right"), first, [(address, text)], "right 0 6; print 9; halt", 2)


class TestOwn(Witnesses):
    def test_inside(self):
        self.alone(LATER, inside("own store"), [(0, "set r0 2; store 7 r0; print 1; halt")], 3)
        self.alone(LATER, inside("own alias store"), [(0, "set r0 2; store 23 r0; print 1; halt")], 3, ALIAS)
        self.alone(LATER_SECOND, inside("own store"), [(10, "set r0 2; store 17 r0; print 1; halt")], 3)

    def test_stores_before_entering(self):
        for change, cell, pages in (("own store", 4, PLAIN_PAGES), ("own alias store", 36, FAR_ALIAS)):
            text = f"print 1; jumpz 18; set r0 2; store {cell} r0; compare r1 r1; jump 3"
            self.alone(FIRST, entered(change), [(0, "jump 3"), (3, text)], 10, pages)
        self.alone(FIRST_SECOND, entered("own store"), [
            (0, "jump 15; set r0 2; store 16 r0; compare r1 r1; jump 15"), (15, "print 1; jumpz 22; jump 2")], 10)

    def test_maps_and_rights_before_entering(self):
        for change, text in (("own map", "map 1 2"), ("own right", "right 1 6")):
            self.alone(FIRST, entered(change), [
                (0, f"jump 16; {text}; compare r1 r1; jump 16"), (16, "print 1; jumpz 12; jump 2"),
                (32, "print 2; jumpz 12; jump 2")], 10)

    def test_the_level(self):
        text = "disable; jumpz 12; lower; compare r1 r1; jump 3"
        self.alone(FIRST, entered("level"), [(0, "jump 3"), (3, text)], 10)

    def test_following(self):
        text = "print 1; jumpz 18; set r0 2; store 4 r0; compare r1 r1; jump 0"
        self.alone(FIRST, ("make", "place", "do", "own store", "follow", "do"), [(0, "jump 3"), (3, text)], 10)


class TestReuse(Witnesses):
    def test_inside(self):
        guest = guest_of_texts([(0, "print 7; print 1; halt"), (48, "print 5; print 6; halt")], starts=(0, 48))
        for rules in ((), ("single",)):
            self.witness(LATER, inside("reuse"), Trial(guest, 1, 8, ("g0", "g1", "g0")), rules)

    def test_following(self):
        guest = guest_of_texts([(0, "print 1; jumpz 10; compare r1 r1; jump 0"), (10, "print 5; jump 4")])
        for rules, slots in (((), 2), (("stop_page", "eager"), 2), (("single",), 4), (("single", "stop_page"), 4)):
            scenario = ("make", "place", "do", "reuse", "follow", "do")
            self.witness(FIRST, scenario, Trial(guest, slots, 8, G0 * 11), rules)


class TestNoWitness(Checks):
    def known(self):
        found = []
        for change in OTHERS:
            found.extend([(FIRST, prepared(change)), (LATER, inside(change))])
        for change in ("other store", "device write"):
            found.extend([(FIRST_SECOND, prepared(change)), (LATER_SECOND, inside(change))])
        found.extend([(LATER, inside(change)) for change in ("own store", "own alias store", "reuse")])
        found.append((LATER_SECOND, inside("own store")))
        names = ("own store", "own alias store", "own map", "own right", "level")
        found.extend([(FIRST, entered(change)) for change in names])
        found.append((FIRST_SECOND, entered("own store")))
        found.extend([(FIRST, ("make", "place", "do", change, "follow", "do")) for change in ("own store", "reuse")])
        return found

    def test_every_other_scenario_of_these_shapes(self):
        known = self.known()
        self.assertEqual(len(known), 26)
        for target, change in product(TARGETS + (("first", "x"), ("later",)), MOVES):
            shapes = (prepared(change), inside(change), entered(change),
                      ("make", "place", "do", change, "follow", "do"))
            for scenario in shapes:
                if (target, scenario) in known:
                    self.assertIsInstance(cell_witness(Policy(), target, scenario), Trial)
                else:
                    self.refuses(SettingError, {"name": "scenario"}, cell_witness, Policy(), target, list(scenario))

    def test_other_lists(self):
        good = ["make", "other store", "place", "do"]
        for scenario in ([], ["do"], good[:3], good + ["do"], good[::-1], ["make, other store", "place", "do"],
                         ["make", "other store ", "place", "do"], [""] * 4):
            self.refuses(SettingError, {"name": "scenario"}, cell_witness, Policy(), FIRST, scenario)

    def test_arguments_stay(self):
        scenario = ["make", "other store", "place", "do"]
        cell_witness(Policy(), FIRST, scenario)
        self.assertEqual(scenario, ["make", "other store", "place", "do"])


class TestThatTheyShowIt(Checks):
    def shown(self, policy, other, device, known):
        """The witness of the policy's scenario fits the environment, and its events cannot be shown plainly."""
        found = cell_scenario(policy, other=other, device=device)
        if found is None:
            return None
        target, scenario = found
        trial = cell_witness(policy, target, scenario)
        self.assertTrue(trial.guest.fits(other=other, device=device), policy.names)
        self.shows(policy, trial, known)
        return (target, tuple(scenario))

    def test_each_scenario(self):
        follow = ("make", "place", "do", "own store", "follow", "do")
        reused = ("make", "place", "do", "reuse", "follow", "do")
        for target, scenario, missing, environments in (
            (FIRST, prepared("other store"), "invalidate_store check_entry", "both other"),
            (FIRST, prepared("device write"), "invalidate_device check_entry", "both device"),
            (FIRST, prepared("other alias store"), "track_frames check_entry", "both other"),
            (FIRST, prepared("other map"), "invalidate_map check_entry", "both other"),
            (FIRST, prepared("other right"), "invalidate_rights check_entry", "both other"),
            (FIRST, entered("own store"), "invalidate_store check_entry", "device none"),
            (FIRST, entered("own alias store"), "track_frames check_entry", "none"),
            (FIRST, entered("own map"), "invalidate_map check_entry", "device none"),
            (FIRST, entered("own right"), "invalidate_rights check_entry", "device none"),
            (FIRST, entered("level"), "key_level check_entry", "both other device none"),
            (FIRST, follow, "cut_links check_entry no_links", "both other device none"),
            (FIRST, reused, "clear_links check_entry no_links", "both other device none"),
            (FIRST, reused, "clear_links check_entry no_links single", "both other device none"),
            (LATER, inside("other store"), "invalidate_store single", "both other"),
            (LATER, inside("other store"), "leave_other single", "both other"),
            (LATER, inside("device write"), "invalidate_device single", "both device"),
            (LATER, inside("device write"), "leave_other single", "device"),
            (LATER, inside("other alias store"), "track_frames single", "both other"),
            (LATER, inside("other map"), "invalidate_map single", "both other"),
            (LATER, inside("other right"), "invalidate_rights single", "both other"),
            (LATER, inside("reuse"), "hold_slot single", "both other"),
            (LATER, inside("own store"), "invalidate_store stop_store single", "both other device none"),
            (LATER, inside("own store"), "leave_self stop_store single", "both other device none"),
            (LATER, inside("own alias store"), "track_frames stop_store single", "both other device none"),
            (FIRST_SECOND, prepared("other store"), "track_second check_entry stop_page", "both other"),
            (FIRST_SECOND, prepared("device write"), "track_second check_entry stop_page", "device"),
            (FIRST_SECOND, entered("own store"), "track_second check_entry stop_page", "none"),
            (LATER_SECOND, inside("other store"), "track_second stop_page single", "both other"),
            (LATER_SECOND, inside("device write"), "track_second stop_page single", "device"),
            (LATER_SECOND, inside("own store"), "track_second stop_page stop_store single", "both other device none"),
        ):
            for environment, values in product(environments.split(), (VALUES, MAPPED)):
                policy = Policy(CODE_RULES) - Policy(missing.split()) | Policy(values)
                other, device = environment in ("both", "other"), environment in ("both", "device")
                self.assertEqual(self.shown(policy, other, device, {}), (target, scenario), (missing, environment))

    def test_other_policies(self):
        random, known = Random(6), {}
        for _ in range(150):
            names = [name for name in CODE_RULES if random.randrange(3)]
            for other, device in product((True, False), repeat=2):
                self.shown(Policy(names) | Policy(random.choice((VALUES, MAPPED))), other, device, known)


if __name__ == "__main__":
    unittest.main()
