"""Point 138, and with it points 18, 19, 99 and 120 for debuggers."""

import unittest
from random import Random

from checks import Checks, host_state
from guestlives.advice import is_safe
from guestlives.debugger import Debugger
from guestlives.house import HOUSE, house_guest, house_schedule
from guestlives.plain import PlainRun
from guestlives.policy import RULES, Policy
from guestlives.saved import load, save
from runs import ALL, ALONE, any_guest, any_schedule


def told(debugger):
    """What taking back, doing again, saving and loading keep."""
    host = debugger.host
    return (list(host.events), list(debugger.log), host.view().key(), dict(host.counts), host_state(host))


class TestSafePolicies(Checks):
    def follow(self, debugger, schedule):
        """At each position the debugger shows what the plain run of the matching schedule has."""
        for action in [None] + schedule:
            if action is not None:
                debugger.do(action)
            plain = PlainRun.replay(debugger.guest, debugger.host.matching)
            self.assertIs(debugger.agrees(), True)
            self.assertEqual(debugger.host.events, plain.events)
            for p, processor in enumerate(plain.machine.processors):
                self.assertEqual(debugger.state(p), processor.key())
            cells = [[debugger.cell(frame, offset) for offset in range(16)] for frame in range(4)]
            self.assertEqual(cells, plain.machine.frames)

    def test_random_guests(self):
        random = Random(33)
        for words in ALL + ALONE:
            for hot in (None, 1):
                alone = words in ALONE
                guest = any_guest(random, not alone, not alone)
                policy = Policy(words.split())
                self.assertTrue(is_safe(guest, policy))
                debugger = Debugger(guest, policy, slots=random.randrange(1, 9), longest=8, hot=hot)
                self.follow(debugger, any_schedule(random, not alone, not alone, 25))

    def test_the_house(self):
        for name in HOUSE:
            for words, hot in ((ALL[3], None), (ALL[3], 1), (ALL[2], 2)):
                debugger = Debugger(house_guest(name, 2), Policy(words.split()), hot=hot)
                self.assertTrue(is_safe(debugger.guest, debugger.policy))
                self.follow(debugger, house_schedule(name, 2))

    def test_positions_that_are_taken_back(self):
        debugger = Debugger(house_guest("patcher", 3), Policy(ALL[3].split()), hot=1)
        debugger.run(house_schedule("patcher", 3))
        while debugger.position > 0:
            debugger.back()
            plain = PlainRun.replay(debugger.guest, debugger.host.matching)
            self.assertIs(debugger.agrees(), True)
            self.assertEqual(debugger.state(0), plain.machine.processors[0].key())


class TestEveryPolicy(Checks):
    def test_the_schedule_cut_at_any_place(self):
        random = Random(34)
        for hot in (None, 1, 2):
            for _ in range(12):
                policy = Policy([name for name in RULES if random.randrange(10) < random.choice((2, 5, 8))])
                debugger = Debugger(any_guest(random, True, True), policy, slots=random.randrange(9),
                                    longest=random.randrange(1, 9), hot=hot)
                schedule = any_schedule(random, True, True, 40)
                debugger.run(schedule)
                whole = told(debugger)
                for cut in range(len(schedule) + 1):
                    debugger.back(len(schedule) - cut)
                    self.assertEqual(debugger.host.schedule, schedule[:cut])
                    within = told(debugger)
                    other = load(save(debugger))
                    self.assertEqual(told(other), within)
                    self.assertEqual(other.run(schedule[cut:]), debugger.forward(len(schedule) - cut))
                    self.assertEqual(told(debugger), whole)
                    self.assertEqual(told(other), whole)


if __name__ == "__main__":
    unittest.main()
