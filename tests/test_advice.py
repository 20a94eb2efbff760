"""Point 137."""

import unittest
from itertools import product
from random import Random

from checks import Checks, blank_frames
from guestlives.advice import advise, environment_of, is_safe, warn
from guestlives.guest import Guest
from guestlives.house import HOUSE, house_guest
from guestlives.least import repairs
from guestlives.policy import RULES, Policy
from guestlives.verdict import is_right, witness
from runs import ALL, ALONE
from wording import right_by_words

GUESTS = {
    (False, False): Guest(blank_frames()),
    (True, False): Guest(blank_frames(), starts=(None, 0)),
    (False, True): Guest(blank_frames(), writes=[(0, 0, 0)]),
    (True, True): Guest(blank_frames(), starts=(0, 63), writes=[(0, 0, 0)] * 64),
}


class TestEnvironmentOf(Checks):
    def test_environments(self):
        for environment, guest in GUESTS.items():
            self.same_kind(environment_of(guest), environment)
            other, device = environment
            self.assertTrue(guest.fits(other=other, device=device))
        self.same_kind(environment_of(Guest(blank_frames(), starts=(None, None))), (False, False))

    def test_the_least_one(self):
        for name in HOUSE:
            guest = house_guest(name, 3)
            found = environment_of(guest)
            self.same_kind(found, (name == "sender", name == "feeder"))
            fitting = [pair for pair in product((False, True), repeat=2) if guest.fits(other=pair[0], device=pair[1])]
            self.assertEqual(found, min(fitting))
        self.same_kind(environment_of(house_guest("feeder", 0)), (False, False))


class TestAdvice(Checks):
    def test_in_the_environment_of_the_guest(self):
        random = Random(32)
        policies = [Policy(words.split()) for words in ALONE + ALL] + [Policy.empty(), Policy.full()]
        policies.extend([Policy([name for name in RULES if random.randrange(10) < 7]) for _ in range(20)])
        found = []
        for policy in policies:
            for (other, device), guest in GUESTS.items():
                safe = is_safe(guest, policy)
                found.append((safe, other, device))
                self.assertIs(safe, right_by_words(policy.names, other, device))
                self.assertIs(safe, is_right(policy, other=other, device=device))
                self.same_kind(advise(guest, policy), repairs(policy, other=other, device=device))
                self.assertEqual(advise(guest, policy) == [()], safe)
                trial, wanted = warn(guest, policy), witness(policy, other=other, device=device)
                self.assertEqual(trial is None, safe)
                if trial is not None:
                    self.assertEqual(trial.key(), wanted.key())
                    self.assertTrue(trial.guest.fits(other=other, device=device))
        self.assertEqual(len(set(found)), 8)

    def test_one_policy_in_all_environments(self):
        policy = Policy(ALONE[1].split())
        self.same_kind([is_safe(guest, policy) for guest in GUESTS.values()], [True, False, False, False])
        self.same_kind(advise(GUESTS[False, False], policy), [()])
        self.assertIsNone(warn(GUESTS[False, False], policy))
        self.assertEqual(warn(GUESTS[True, False], policy).guest.writes, ())
        self.assertEqual(len(warn(GUESTS[False, True], policy).guest.writes), 1)

    def test_advice_makes_it_safe(self):
        for guest in GUESTS.values():
            for names in ((), ("eager",), ("check_entry", "flush_exit")):
                for more in advise(guest, Policy(names)):
                    self.assertTrue(is_safe(guest, Policy(names) | Policy(more)))


if __name__ == "__main__":
    unittest.main()
