"""Points 105 and 106."""

import unittest
from itertools import product
from random import Random

from checks import Checks, guest_of
from guestlives.host import Host
from guestlives.policy import RULES, Policy
from guestlives.polling import always_polled, is_polled


class TestIsPolled(Checks):
    def test_all_cases(self):
        for entry, target in ((0, 0), (0, 1), (1, 0), (63, 62), (63, 63), (62, 63), (0, 63), (63, 0)):
            for names in ((), ("no_links",), ("single", "eager", "check_entry")):
                self.assertIs(is_polled(Policy(names), entry, target), False)
                self.assertIs(is_polled(Policy(names + ("poll_entry",)), entry, target), True)
                self.assertIs(is_polled(Policy(names + ("poll_backward",)), entry, target), target <= entry)
                both = Policy(names + ("poll_entry", "poll_backward"))
                self.assertIs(is_polled(both, entry, target), True)

    def test_as_a_host_polls(self):
        # One guest has a link from the block at 1 to itself, the other one links from 0 to 2 and back.
        for names in ((), ("poll_entry",), ("poll_backward",)):
            policy = Policy(("eager",) + names)
            host = Host(guest_of(("enable", ()), ("jump", (1,))), policy)
            host.run(["g0"] * 3)
            before = host.counts["polled"]
            host.do("g0")
            self.assertEqual(host.counts["polled"] - before, int(is_polled(policy, 1, 1)))
            forward = Policy(("eager", "single") + names)
            host = Host(guest_of(("print", (1,)), ("jump", (0,))), forward)
            host.run(["g0"] * 4)
            before = host.counts["polled"]
            host.run(["g0"] * 2)
            self.assertEqual(host.counts["followed"], 3)
            wanted = int(is_polled(forward, 0, 2)) + int(is_polled(forward, 2, 0))
            self.assertEqual(host.counts["polled"] - before, wanted)


class TestAlwaysPolled(Checks):
    def test_all_sets_of_the_three_rules(self):
        for chosen in product((False, True), repeat=3):
            names = [name for name, has in zip(("no_links", "poll_entry", "poll_backward"), chosen) if has]
            self.assertIs(always_polled(Policy(names)), any(chosen))
            others = [name for name in RULES if name not in ("no_links", "poll_entry", "poll_backward")]
            self.assertIs(always_polled(Policy(others + names)), any(chosen))


class TestForEver(Checks):
    def test_an_interrupt_that_is_never_taken(self):
        random = Random(16)
        guest = guest_of(("enable", ()), ("jump", (1,)))
        taken = 0
        for number in range(120):
            policy = Policy([name for name in RULES if random.randrange(10) < 5])
            host = Host(guest, policy, slots=1 + number % 8, longest=random.randrange(1, 9))
            host.run(["g0"] * 3)
            before = dict(host.counts)
            host.do("g0")
            host.do("r0")
            events = host.run(["g0"] * 60)
            if always_polled(policy):
                self.assertEqual(events, [("trap", 0, "interrupt", 1, (0, 0, 0, 0), (0, 0)), ("halt", 0)])
                taken = taken + 1
            else:
                self.assertEqual(events, [])
                self.assertTrue(host.machine.processors[0].pending)
                self.assertEqual(host.counts["followed"], before["followed"] + 61)
                self.assertEqual(host.counts["polled"], before["polled"])
        self.assertNotIn(taken, (0, 120))

    def test_the_third_round_is_the_first_one_by_link(self):
        host = Host(guest_of(("enable", ()), ("jump", (1,))), Policy(["eager"]))
        rounds = []
        for _ in range(5):
            host.do("g0")
            rounds.append((host.counts["found"], host.counts["followed"]))
        self.assertEqual(rounds, [(0, 0), (0, 0), (1, 0), (1, 1), (1, 2)])


if __name__ == "__main__":
    unittest.main()
