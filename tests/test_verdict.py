"""Points 99 to 101."""

import unittest
from itertools import product
from random import Random

from checks import Checks
from guestlives.cellwitness import cell_witness
from guestlives.least import least_policies
from guestlives.policy import RULES, Policy
from guestlives.trial import Trial
from guestlives.valuewitness import value_witness
from guestlives.verdict import is_right, sort_policies, verdict, witness
from runs import ALL, ALONE
from wording import right_by_words

ENVIRONMENTS = tuple(product((True, False), repeat=2))
FIRST, LATER = ("first", "same"), ("later", "same")

# What leaves a block in its midst loses a value, and nothing else is wrong.
LEFT = ("invalidate_store invalidate_device track_frames track_second invalidate_map invalidate_rights leave_self "
        "leave_other hold_slot check_entry flush_exit map_inspect keep_dropped flush_source map_fault prompt_store")


def any_policy(random):
    share = random.choice((4, 6, 8, 9))
    return Policy([name for name in RULES if random.randrange(10) < share])


class TestIsRight(Checks):
    def test_named_policies(self):
        for words in ALL:
            for other, device in ENVIRONMENTS:
                self.assertIs(is_right(Policy(words.split()), other=other, device=device), True)
        for words in ALONE:
            self.assertIs(is_right(Policy(words.split()), other=False, device=False), True)
        for words, wanted in ((ALONE[0], True), (ALONE[1], False), (ALONE[3], False), ("", False), (LEFT, False)):
            self.assertIs(is_right(Policy(words.split())), wanted)
        self.assertIs(is_right(Policy.full()), True)
        self.assertIs(is_right(Policy.empty(), other=False, device=False), False)

    def test_each_condition_counts(self):
        for words in ("single check_entry", "single eager", LEFT):
            self.assertIs(is_right(Policy(words.split())), False)
        for words in ("single check_entry eager", f"{LEFT} map_leave"):
            self.assertIs(is_right(Policy(words.split())), True)

    def test_environments(self):
        policy = Policy(ALONE[1].split())
        found = [is_right(policy, other=other, device=device) for other, device in ENVIRONMENTS]
        self.same_kind(found, [False, False, False, True])
        self.assertIs(is_right(policy, other=False), False)
        self.assertIs(is_right(policy, device=False), False)
        with self.assertRaises(TypeError):
            is_right(policy, True)

    def test_by_the_words_of_the_document(self):
        random = Random(7)
        for _ in range(400):
            policy = any_policy(random)
            for other, device in ENVIRONMENTS:
                wanted = right_by_words(policy.names, other, device)
                self.assertIs(is_right(policy, other=other, device=device), wanted, policy.names)

    def test_more_rules_keep_a_right_policy_right(self):
        random = Random(8)
        for other, device in ENVIRONMENTS:
            for policy in least_policies(other=other, device=device):
                for more in [Policy([name]) for name in RULES] + [any_policy(random), Policy.full()]:
                    self.assertIs(is_right(policy | more, other=other, device=device), True)


class TestVerdict(Checks):
    def test_the_three_kinds(self):
        self.same_kind(verdict(Policy.empty()), ("value", "cell", ["store", "seen"]))
        self.same_kind(verdict(Policy(["single", "check_entry"])), ("value", "register", ["make last", "read"]))
        self.same_kind(verdict(Policy(["single", "eager"])), ("code", FIRST, ["make", "other store", "place", "do"]))
        self.same_kind(verdict(Policy(LEFT.split())), ("leave", "register", ["make", "leave", "read"]))
        self.assertIsNone(verdict(Policy.full()))
        for words in ALL:
            self.assertIsNone(verdict(Policy(words.split())))

    def test_the_first_one_that_is_found(self):
        both = Policy(LEFT.split()) - Policy(["leave_self"])
        self.same_kind(verdict(both), ("code", LATER, ["make", "place", "own store", "do"]))
        self.same_kind(verdict(both - Policy(["map_inspect"])), ("value", "register", ["make", "inspect"]))

    def test_environments(self):
        for words, found in ((ALONE[1], (LATER, "other store")), ("single eager", (FIRST, None))):
            policy = Policy(words.split())
            self.assertEqual(verdict(policy)[1], found[0])
            self.assertEqual(verdict(policy), verdict(policy, other=True, device=True))
        policy = Policy(ALONE[1].split())
        self.assertEqual(verdict(policy, other=False), ("code", LATER, ["make", "place", "device write", "do"]))
        self.assertEqual(verdict(policy, device=False), ("code", LATER, ["make", "place", "other store", "do"]))
        self.assertIsNone(verdict(policy, other=False, device=False))
        left = Policy(LEFT.split()) | Policy(["stop_store"])
        self.assertEqual(verdict(left, other=False), ("leave", "register", ["make", "leave", "read"]))
        self.assertIsNone(verdict(left, other=False, device=False))
        with self.assertRaises(TypeError):
            verdict(policy, True)

    def test_none_exactly_for_right_policies(self):
        random = Random(9)
        for _ in range(300):
            policy = any_policy(random)
            for other, device in ENVIRONMENTS:
                found = verdict(policy, other=other, device=device)
                self.assertIs(found is None, is_right(policy, other=other, device=device), policy.names)

    def test_a_new_list(self):
        verdict(Policy.empty())[2].append("x")
        self.assertEqual(verdict(Policy.empty()), ("value", "cell", ["store", "seen"]))


class TestWitness(Checks):
    def test_by_the_verdict(self):
        trial = witness(Policy(LEFT.split()), other=False)
        self.assertIsInstance(trial, Trial)
        self.assertEqual(trial.key(), value_witness(["make", "leave", "read"], other=False).key())
        self.assertNotEqual(trial.key(), witness(Policy(LEFT.split())).key())
        self.assertEqual(witness(Policy.empty()).key(), value_witness(["store", "seen"]).key())
        policy = Policy(["single", "eager"])
        wanted = cell_witness(policy, FIRST, ["make", "device write", "place", "do"])
        self.assertEqual(witness(policy, other=False).key(), wanted.key())
        with self.assertRaises(TypeError):
            witness(policy, True)

    def test_none_for_right_policies(self):
        for words in ALL:
            for other, device in ENVIRONMENTS:
                self.assertIsNone(witness(Policy(words.split()), other=other, device=device))

    def test_the_policy_counts_for_the_witness_of_a_reused_slot(self):
        base = Policy(LEFT.split()) | Policy(["map_leave", "key_level", "invalidate_device", "track_prepared"])
        base = base - Policy(["check_entry"]) | Policy(["cut_links"])
        for names, slots in (((), 2), (("single",), 4)):
            policy = base | Policy(names)
            self.assertEqual(verdict(policy)[2], ["make", "place", "do", "reuse", "follow", "do"])
            self.assertEqual(witness(policy).slots, slots)

    def test_it_shows_that_the_policy_is_wrong(self):
        random = Random(10)
        policies = [any_policy(random) for _ in range(60)]
        for words in (ALL[1], ALL[2], ALL[3], LEFT):
            policies.extend([Policy(words.split()) - Policy([name]) for name in words.split()])
        known, kinds = {}, []
        for policy in policies:
            for other, device in ENVIRONMENTS:
                trial = witness(policy, other=other, device=device)
                self.assertIs(trial is None, is_right(policy, other=other, device=device))
                if trial is not None:
                    kinds.append((verdict(policy, other=other, device=device)[0], other, device))
                    self.assertTrue(trial.guest.fits(other=other, device=device))
                    self.shows(policy, trial, known)
        self.assertEqual(len(set(kinds)), 12)


class TestSortPolicies(Checks):
    def test_in_order_with_duplicates(self):
        full, empty, single = Policy.full(), Policy.empty(), Policy(["single", "eager", "check_entry"])
        found = sort_policies(empty, single, full, empty, single, single)
        self.assertIsInstance(found, tuple)
        self.same_kind([list(map(id, row)) for row in found],
                       [[id(single), id(full), id(single), id(single)], [id(empty), id(empty)]])
        self.same_kind([type(row) for row in found], [list, list])

    def test_any_number(self):
        self.same_kind(sort_policies(), ([], []))
        self.same_kind(sort_policies(other=False, device=False), ([], []))
        full = Policy.full()
        self.assertEqual(sort_policies(full), ([full], []))
        self.assertEqual(sort_policies(*[full] * 50), ([full] * 50, []))

    def test_environments(self):
        policies = [Policy(words.split()) for words in ALONE + ALL]
        self.assertEqual(sort_policies(*policies, other=False, device=False), (policies, []))
        wanted = [policy for policy in policies if is_right(policy)]
        self.assertEqual(sort_policies(*policies)[0], wanted)
        for named in ({"other": False}, {"device": False}):
            right, wrong = sort_policies(*policies, **named)
            self.assertEqual(right, [policy for policy in policies if is_right(policy, **named)])
            self.assertEqual(wrong, [policy for policy in policies if not is_right(policy, **named)])


if __name__ == "__main__":
    unittest.main()
