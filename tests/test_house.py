"""Points 123 to 126."""

import unittest
from itertools import product
from random import Random

from checks import Checks, guest_of_texts
from guestlives.advice import environment_of
from guestlives.errors import SettingError
from guestlives.guest import Guest
from guestlives.host import Host
from guestlives.hothost import HotHost
from guestlives.house import HOUSE, house_events, house_guest, house_matching, house_schedule
from guestlives.least import least_policies
from guestlives.plain import PlainRun
from guestlives.policy import RULES, Policy

FUNCTIONS = (house_guest, house_matching, house_schedule, house_events)
NUMBERS = range(8)


def wanted_programs(n):
    """The programs of the document."""
    return {
        "sum": ((0, f"set r1 {n}; set r2 255; compare r1 r3; jumpz 19; add r0 r1; add r1 r2; jump 6; show r0; halt"),),
        "patcher": ((0, f"set r1 1; set r2 {n}; print 0; compare r0 r2; jumpz 21; add r0 r1; store 7 r0; jump 6; "
                        "halt"),),
        "remapper": ((0, f"set r0 {n}; set r1 255; compare r0 r2; jumpz 58; add r0 r1; jump 16"),
                     (16, "print 1; jump 48"), (32, "print 2; jump 53"),
                     (48, "map 1 2; jump 6; map 1 1; jump 6; halt")),
        "caller": ((0, f"lower; set r1 {n}; set r3 1; compare r0 r1; jumpz 15; call; jump 7; show r0; halt"),
                   (48, "add r0 r3; resume")),
        "gate": ((0, f"set r0 {n}; set r1 255; jump 32; halt"),
                 (32, "compare r0 r2; jumpz 8; add r0 r1; right 1 6; jump 16"), (16, "print 1; jump 32"),
                 (48, "right 1 7; resume")),
        "sender": ((0, "load r0 48; compare r0 r1; jumpz 0; load r2 49; show r2; halt"),
                   (32, f"set r0 {n}; store 49 r0; set r0 1; store 48 r0; halt")),
        "ticker": ((0, f"set r1 1; set r2 {n}; compare r0 r2; jumpz 16; add r0 r1; jump 6; enable; halt"),
                   (48, "show r0; resume")),
        "feeder": ((0, "print 0; jump 0"),),
    }


def wanted_schedules(n):
    """The schedules of the document, for a plain run."""
    lengths = {"sum": 6 + 5 * n, "patcher": 6 + 6 * n, "remapper": 5 + 8 * n, "caller": 7 + 6 * n, "gate": 6 + 10 * n}
    schedules = {name: ["g0"] * length for name, length in lengths.items()}
    schedules["sender"] = ["g0"] * (3 * n) + ["g1"] * 5 + ["g0"] * 6
    schedules["ticker"] = ["g0"] * n + ["r0"] + ["g0"] * (5 + 3 * n) + ["t0"] + ["g0"] * 3
    schedules["feeder"] = ["g0", "g0", "d"] * n + ["g0"]
    return schedules


def wanted_events(name, n):
    """What each guest is meant to show."""
    halt = [("halt", 0)]
    if name == "sum":
        return [("print", 0, n * (n + 1) // 2)] + halt
    if name == "patcher":
        return [("print", 0, number) for number in range(n + 1)] + halt
    if name == "remapper":
        return [("print", 0, 1 + number % 2) for number in range(n)] + halt
    if name == "caller":
        return [("trap", 0, "call", 12, (number, n, 0, 1), (0, 1)) for number in range(n)] + [("print", 0, n)] + halt
    if name == "gate":
        rows = [[("trap", 0, "execute", 16, (number, 255, 0, 0), (0, 0)), ("print", 0, 1)] for number in range(n)]
        return sum(rows[::-1], []) + halt
    if name == "sender":
        return [("halt", 1), ("print", 0, n)] + halt
    if name == "ticker":
        return [("trap", 0, "interrupt", 17, (n, 1, n, 0), (1, 0)), ("print", 0, n)] + halt
    found = [("print", 0, 0)]
    for number in range(1, n + 1):
        found.extend([("device", 0, 1, number), ("print", 0, number)])
    return found


class TestHouse(Checks):
    def test_names(self):
        self.same_kind(HOUSE, ("sum", "patcher", "remapper", "caller", "gate", "sender", "ticker", "feeder"))

    def test_guests(self):
        for n, name in product(NUMBERS, HOUSE):
            named = {}
            if name in ("caller", "gate", "ticker"):
                named["handlers"] = (48, 60)
            if name == "sender":
                named["starts"] = (0, 32)
            if name == "feeder":
                named["writes"] = [(0, 1, number) for number in range(1, n + 1)]
            guest = house_guest(name, n)
            self.assertIsInstance(guest, Guest)
            self.assertEqual(guest.key(), guest_of_texts(wanted_programs(n)[name], **named).key(), (name, n))

    def test_schedules(self):
        for n, name in product(NUMBERS, HOUSE):
            wanted = wanted_schedules(n)[name]
            self.same_kind(house_matching(name, n), wanted)
            self.same_kind(house_schedule(name, n), ["g0" if action == "t0" else action for action in wanted])
        house_matching("sum", 1).clear()
        house_schedule("sum", 1).clear()
        self.assertEqual(len(house_matching("sum", 1)), 11)

    def test_events(self):
        for n, name in product(NUMBERS, HOUSE):
            self.same_kind(house_events(name, n), wanted_events(name, n))
            run = PlainRun.replay(house_guest(name, n), house_matching(name, n))
            self.assertEqual(house_events(name, n), run.events)
            self.assertEqual(run.finished, name != "feeder")

    def test_wrong_values(self):
        for call in FUNCTIONS:
            for name in ("", "Sum", "sum ", "none", "feeders"):
                for n in (-1, 0, 8):
                    self.refuses(SettingError, {"name": "name"}, call, name, n)
            for name in HOUSE:
                for n in (-1, 8, 100):
                    self.refuses(SettingError, {"name": "number"}, call, name, n)


class TestHosts(Checks):
    def check(self, name, n, policy, settings):
        """Host and hot host have the events of the guest and its matching schedule."""
        guest, schedule = house_guest(name, n), house_schedule(name, n)
        slots, longest, hot = settings
        for host in (Host(guest, policy, slots=slots, longest=longest),
                     HotHost(guest, policy, slots=slots, longest=longest, hot=hot)):
            self.assertEqual(host.run(schedule), house_events(name, n), (name, n, policy.names, settings))
            self.assertEqual(host.events, house_events(name, n))
            self.assertEqual(host.matching, house_matching(name, n))
        return host.counts["joined"]

    def test_least_policies(self):
        random = Random(27)
        joined = 0
        for name in HOUSE:
            other, device = environment_of(house_guest(name, 7))
            for policy in least_policies(other=other, device=device):
                more = Policy([rule for rule in RULES if rule != "single" and random.randrange(8) == 0])
                for n in (0, 7):
                    settings = (random.randrange(9), random.randrange(1, 9), random.randrange(1, 4))
                    joined = joined + self.check(name, n, policy | more, settings)
        self.assertGreater(joined, 30)

    def test_all_settings(self):
        policies = [Policy([rule for rule in RULES if rule not in left]) for left in (
            (), ("single",), ("single", "no_links", "check_entry"),
            ("single", "no_links", "eager", "stop_page", "stop_store"), ("single", "no_links", "poll_entry"))]
        for name in HOUSE:
            for slots, longest, policy in product((0, 1, 3, 8), (1, 8), policies):
                for n, hot in ((0, 1), (7, 2)):
                    self.check(name, n, policy, (slots, longest, hot))

    def test_wrong_policies_differ_somewhere(self):
        for name, policy in (("patcher", Policy(["eager", "prompt_store"])), ("remapper", Policy(["eager"])),
                             ("gate", Policy(["eager"])), ("feeder", Policy(["eager"]))):
            host = Host(house_guest(name, 7), policy, slots=8)
            self.assertNotEqual(host.run(house_schedule(name, 7)), house_events(name, 7), name)


if __name__ == "__main__":
    unittest.main()
