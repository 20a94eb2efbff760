"""Points 135 and 136, and 138 as far as it speaks of saving."""

import unittest
from random import Random

from checks import Checks, host_state
from guestlives.debugger import Debugger
from guestlives.errors import SettingError, TextError
from guestlives.guest import Guest
from guestlives.guesttext import format_guest, parse_guest
from guestlives.house import HOUSE, house_guest, house_schedule
from guestlives.plaintext import format_policy, format_schedule
from guestlives.policy import RULES, Policy
from guestlives.saved import load, save
from runs import any_guest, any_schedule

SAFE = Policy(["single", "eager", "check_entry"])
GUEST_LINES = format_guest(house_guest("feeder", 2)).split("\n")
HEAD = ["policy check_entry single eager", "settings 4 8 2", "schedule g0*2 d g0"]
LINES = HEAD + GUEST_LINES


def with_line(number, row):
    """The saved text with another line; lines are counted from 1."""
    return "\n".join(LINES[:number - 1] + [row] + LINES[number:])


class TestSave(Checks):
    def test_text(self):
        debugger = Debugger(house_guest("feeder", 2), SAFE, longest=8, hot=2)
        debugger.run(["g0", "g0", "d", "g0"])
        self.same_kind(save(debugger), "\n".join(LINES))
        self.assertEqual(GUEST_LINES[-2:], ["write 0 1 1", "write 0 1 2"])

    def test_without_rules_and_actions(self):
        debugger = Debugger(Guest.blank(), Policy.empty(), slots=0, longest=1)
        wanted = ["policy none", "settings 0 1 none", "schedule none", format_guest(Guest.blank())]
        self.same_kind(save(debugger), "\n".join(wanted))

    def test_what_is_undone_is_not_saved(self):
        debugger = Debugger(house_guest("sum", 2), SAFE)
        debugger.run(["g0"] * 9 + ["i1"])
        debugger.back(3)
        self.assertEqual(save(debugger).split("\n")[2], "schedule g0*7")
        debugger.forward(3)
        self.assertEqual(save(debugger).split("\n")[2], "schedule g0*9 i1")

    def test_a_long_log(self):
        debugger = Debugger(Guest.blank(), SAFE)
        debugger.run(["i0"] * 1000)
        text = save(debugger)
        self.assertEqual(text.split("\n")[2], "schedule i0*1000")
        self.assertEqual(load(text).position, 1000)
        debugger.do("g0")
        self.refuses(SettingError, {"name": "schedule"}, save, debugger)
        debugger.back()
        self.assertEqual(save(debugger), text)


class TestLoad(Checks):
    def test_what_was_saved(self):
        debugger = load("\n".join(LINES))
        self.assertIsInstance(debugger, Debugger)
        self.same_kind((debugger.slots, debugger.longest, debugger.hot), (4, 8, 2))
        self.assertEqual((debugger.policy.names, debugger.guest.key()),
                         (("check_entry", "single", "eager"), house_guest("feeder", 2).key()))
        self.same_kind(debugger.log, [("g0", (("print", 0, 0),)), ("g0", ()), ("d", (("device", 0, 1, 1),)),
                                      ("g0", (("print", 0, 1),))])
        self.assertEqual(debugger.undone, [])

    def test_settings(self):
        for text, wanted in (("0 1 none", (0, 1, None)), ("8 8 8", (8, 8, 8)), ("3 5 1", (3, 5, 1))):
            debugger = load(with_line(2, f"settings {text}"))
            self.same_kind((debugger.slots, debugger.longest, debugger.hot), wanted)

    def test_any_debugger(self):
        random = Random(30)
        for _ in range(60):
            policy = Policy([name for name in RULES if random.randrange(10) < random.choice((0, 3, 6, 10))])
            debugger = Debugger(any_guest(random, True, random.randrange(2)), policy, slots=random.randrange(9),
                                longest=random.randrange(1, 9), hot=random.choice((None, 1, 2, 8)))
            debugger.run(any_schedule(random, True, True, random.randrange(50)))
            text = save(debugger)
            other = load(text)
            self.assertEqual(save(other), text)
            self.assertEqual((host_state(other.host), other.log), (host_state(debugger.host), debugger.log))
            self.assertIs(type(other.host), type(debugger.host))
            self.assertEqual(other.guest.key(), debugger.guest.key())

    def test_the_house(self):
        for name in HOUSE:
            debugger = Debugger(house_guest(name, 3), SAFE)
            debugger.run(house_schedule(name, 3))
            self.assertEqual(load(save(debugger)).host.events, debugger.host.events)

    def check(self, number, row, column):
        """The text with this line is wrong there."""
        self.refuses(TextError, {"line": number, "column": column}, load, with_line(number, row))
        # What is wrong further down does not count.
        lines = LINES[:number - 1] + [row] + ["" for _ in LINES[number:]]
        self.refuses(TextError, {"line": number, "column": column}, load, "\n".join(lines))

    def test_the_policy_line(self):
        for row, column in (
            ("", 1), ("policy", 1), ("Policy none", 1), (" policy none", 1), ("policies none", 1), ("schedule none", 1),
            ("none", 1), ("policy ", 8), ("policy  none", 8), ("policy none ", 12), ("policy x", 8),
            ("policy single check_entry", 15), ("policy eager eager", 14), ("policy none eager", 8),
            ("policy eager  x", 14), ("policy single x  y", 17), ("policy single x", 15),
        ):
            self.check(1, row, column)

    def test_the_settings_line(self):
        for row, column in (
            ("", 1), ("settings", 1), ("setting 4 4 none", 1), (" settings 4 4 none", 1), ("settings4 4 none", 1),
            ("settings ", 9), ("settings  4 4 none", 10), ("settings 4 4 none ", 18), ("settings 4", 11),
            ("settings 4 4", 13), ("settings x 4", 13), ("settings 4 4 none 1", 19), ("settings 9 9 9 9 9", 16),
            ("settings 9 4 none", 10), ("settings x 0 x", 10), ("settings 04 4 none", 10), ("settings none 4 4", 10),
            ("settings 4 0 none", 12), ("settings 4 9 9", 12), ("settings 4 none 4", 12), ("settings 8 8 0", 14),
            ("settings 8 8 9", 14), ("settings 8 8 None", 14), ("settings 0 1 01", 14), ("settings 0 1 -1", 14),
        ):
            self.check(2, row, column)

    def test_the_schedule_line(self):
        for row, column in (
            ("", 1), ("schedule", 1), ("schedules none", 1), ("policy none", 1), ("schedule ", 10), ("schedule  g0", 10),
            ("schedule g0 ", 12), ("schedule x", 10), ("schedule g0 g0", 13), ("schedule g0*1", 10),
            ("schedule g0*1001", 10), ("schedule g0*999 g1*2", 17), ("schedule none g0", 10),
            ("schedule t0", 10), ("schedule g0*10 t1", 16), ("schedule g0 t1*5 t0", 13), ("schedule t0 x", 13),
            ("schedule t0*3 g0 g0", 18), ("schedule g1 d t0 i0 t1", 15), ("schedule t0  g0", 13),
        ):
            self.check(3, row, column)

    def test_the_lines_of_the_guest(self):
        for number, row, column in (
            (4, "", 1), (4, "page 1 0 7", 6), (4, "page 0 4 7", 8), (4, "page 0 0", 9), (7, "page 3 3 8", 10),
            (8, "start 0 64", 9), (8, "starts 0 0", 1), (9, "start 1  none", 9), (10, "handler 0 none", 11),
            (12, "frame 0 1 0", 11), (12, "frame 0 256", 9), (15, "frame 3 ", 8), (16, "write 0 1", 10),
            (17, "write 0 16 5", 9), (17, "", 1), (17, "frame 3", 1),
        ):
            self.refuses(TextError, {"line": number, "column": column}, load, with_line(number, row))

    def test_each_line_spoilt(self):
        for number, row in enumerate(LINES, start=1):
            head = row.partition(" ")[0]
            text = "\n".join(LINES[:number - 1] + [row[1:]] + LINES[number:])
            self.refuses(TextError, {"line": number, "column": 1}, load, text)
            self.refuses(TextError, {"line": number, "column": 1}, load, with_line(number, head.upper() + row[len(head):]))
            self.refuses(TextError, {"line": number, "column": len(row) + 1}, load, with_line(number, row + " "))
            self.refuses(TextError, {"line": number, "column": 1}, load, with_line(number, ""))

    def test_lines_that_are_missing(self):
        self.refuses(TextError, {"line": 1, "column": 1}, load, "")
        for count in range(1, 15):
            text = "\n".join(LINES[:count])
            self.refuses(TextError, {"line": count + 1, "column": 1}, load, text)
            self.refuses(TextError, {"line": count + 1, "column": 1}, load, text + "\n")
        self.assertEqual(load("\n".join(LINES[:15])).guest.writes, ())

    def test_lines_too_many(self):
        self.refuses(TextError, {"line": 18, "column": 1}, load, "\n".join(LINES) + "\n")
        full = "\n".join(LINES + ["write 0 1 3"] * 62)
        self.assertEqual(len(load(full).guest.writes), 64)
        self.refuses(TextError, {"line": 80, "column": 1}, load, full + "\nwrite 0 1 3")
        self.refuses(TextError, {"line": 80, "column": 1}, load, full + "\n ")

    def test_the_first_wrong_line(self):
        self.refuses(TextError, {"line": 1, "column": 8}, load, "policy x\nsettings\nschedule")
        self.refuses(TextError, {"line": 2, "column": 1}, load, "policy none\nsettings\nschedule t0")
        self.refuses(TextError, {"line": 3, "column": 10}, load, "policy none\nsettings 4 4 none\nschedule t0\nx")

    def test_as_the_parts_are_read(self):
        random = Random(31)
        signs = "g01*d tprx "
        for _ in range(600):
            number = random.randrange(1, len(LINES) + 1)
            row = list(LINES[number - 1])
            row[random.randrange(len(row))] = random.choice(signs)
            text = with_line(number, "".join(row))
            try:
                debugger = load(text)
            except TextError as error:
                self.assertEqual(error.line, number)
                self.assertTrue(1 <= error.column <= len(row) + 1)
            else:
                self.assertEqual(save(debugger), text)

    def test_the_parts_of_a_text(self):
        debugger = load("\n".join(LINES))
        self.assertEqual("policy " + format_policy(debugger.policy), LINES[0])
        self.assertEqual("schedule " + format_schedule([action for action, _ in debugger.log]), LINES[2])
        self.assertEqual(parse_guest("\n".join(LINES[3:])).key(), debugger.guest.key())


if __name__ == "__main__":
    unittest.main()
