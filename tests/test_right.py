"""Points 18, 19 and 99 as far as runs can show them: hosts with right policies agree with plain runs."""

import unittest
from itertools import product
from random import Random

from checks import Checks
from guestlives.against import agrees
from guestlives.host import Host
from guestlives.policy import Policy
from runs import ALL, ALONE, any_guest, any_schedule


class TestRightPolicies(Checks):
    def test_one_processor_and_all_settings(self):
        random = Random(1)
        for words in ALONE + ALL + (" ".join(Policy.full()),):
            policy = Policy(words.split())
            for slots, longest in product(range(9), range(1, 9)):
                host = Host(any_guest(random, False, False), policy, slots=slots, longest=longest)
                host.run(any_schedule(random, False, False, 60))
                self.assertTrue(agrees(host), (words, slots, longest))

    def test_both_processors_and_the_device(self):
        random = Random(2)
        for words, other, device in product(ALL, (False, True), (False, True)):
            policy = Policy(words.split())
            for _ in range(60):
                host = Host(any_guest(random, other, device), policy, slots=random.randrange(9),
                            longest=random.randrange(1, 9))
                host.run(any_schedule(random, other, device, 80))
                self.assertTrue(agrees(host), (words, other, device))

    def test_behind_each_action(self):
        random = Random(3)
        for words in ALL:
            for _ in range(5):
                host = Host(any_guest(random, True, True), Policy(words.split()), slots=2, longest=8)
                for action in any_schedule(random, True, True, 60):
                    host.do(action)
                    self.assertTrue(agrees(host), words)


if __name__ == "__main__":
    unittest.main()
