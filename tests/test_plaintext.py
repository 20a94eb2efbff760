"""Points 23, 25, 26 and 27."""

import unittest

from checks import Checks
from guestlives.errors import ActionError, SettingError, TextError
from guestlives.plaintext import (
    TRAP_KINDS, format_event, format_policy, format_schedule, parse_event, parse_policy, parse_schedule,
)
from guestlives.policy import RULES, Policy
from guestlives.trial import ACTIONS


class Texts(Checks):
    def wrong(self, parse, text, column):
        self.refuses(TextError, {"line": 1, "column": column}, parse, text)
        self.refuses(TextError, {"line": 12, "column": column}, parse, text, 12)
        self.refuses(TextError, {"line": 12, "column": column}, parse, text, line=12)


class TestPolicies(Texts):
    def test_texts(self):
        for names, text in (
            ((), "none"), (("eager",), "eager"), (("poll_entry", "single"), "single poll_entry"),
            (RULES, " ".join(RULES)),
        ):
            self.assertEqual(format_policy(Policy(names)), text)
            policy = parse_policy(text)
            self.assertIsInstance(policy, Policy)
            self.assertEqual(policy.names, Policy(names).names)

    def test_each_pair_of_rules(self):
        for at, first in enumerate(RULES):
            for place, second in enumerate(RULES):
                text = f"{first} {second}"
                if at < place:
                    self.assertEqual(parse_policy(text).names, (first, second))
                else:
                    self.wrong(parse_policy, text, len(first) + 2)

    def test_faults(self):
        for text, column in (
            ("", 1), (" ", 1), ("eager ", 6), (" eager", 1), ("x  eager", 3), ("lazy", 1), ("eager lazy", 7),
            ("none eager", 1), ("eager none", 7), ("none none", 1), ("None", 1), ("none\n", 1), ("\n", 1),
            ("eager\nflush_exit", 1), ("single eager single", 14), ("eager single lazy", 7), ("none ", 5),
        ):
            self.wrong(parse_policy, text, column)


class TestSchedules(Texts):
    def test_texts(self):
        for schedule, text in (
            ([], "none"), (["g0"], "g0"), (["g0", "g0"], "g0*2"), (["g0", "g1", "g0"], "g0 g1 g0"),
            (["d"] * 3 + ["p1"] + ["t0"] * 2, "d*3 p1 t0*2"), (["d"] * 1000, "d*1000"),
            (["g0", "g1"] * 500, " ".join(["g0", "g1"] * 500)), (list(ACTIONS), " ".join(ACTIONS)),
            (["g0"] * 999 + ["i1"], "g0*999 i1"),
        ):
            self.assertEqual(format_schedule(schedule), text)
            self.assertEqual(format_schedule(tuple(schedule)), text)
            self.same_kind(parse_schedule(text), schedule)

    def test_arguments_stay(self):
        schedule = ["g0", "g0"]
        format_schedule(schedule)
        self.assertEqual(schedule, ["g0", "g0"])
        parse_schedule("none").append("g0")
        self.assertEqual(parse_schedule("none"), [])

    def test_wrong_schedules(self):
        for action in ("", "x", "g2", "g0*2", "none"):
            self.refuses(ActionError, {"action": action}, format_schedule, ["g0", action, "y"])
        self.refuses(ActionError, {"action": "x"}, format_schedule, ["g0"] * 1001 + ["x", "y"])
        self.refuses(SettingError, {"name": "schedule"}, format_schedule, ["g0"] * 1001)
        self.refuses(SettingError, {"name": "schedule"}, format_schedule, ("g0", "g1") * 501)

    def test_faults(self):
        for text, column in (
            ("", 1), (" ", 1), ("g0 ", 3), (" g0", 1), ("x  g0", 3), ("g0  g1", 4), ("x", 1), ("g2", 1), ("g0 x", 4),
            ("none g0", 1), ("g0 none", 4), ("none none", 1), ("none\n", 1), ("g0\ng1", 1), ("G0", 1),
            ("g0*", 1), ("g0*0", 1), ("g0*1", 1), ("g0*02", 1), ("g0*1001", 1), ("g0*x", 1), ("g0*2*2", 1),
            ("g0*-2", 1), ("*2", 1), ("2*g0", 1), ("g1 x*2", 4), ("g0 g0", 4), ("g0 g0*2", 4), ("g0*2 g0", 6),
            ("d*2 g0 g0", 8), ("g0*1000 g1", 9), ("g0*999 g1*2", 8), ("g0*999 g1 d x", 11), ("g0*500 g1*501 x", 8),
            ("g0 g0 x", 4), ("x g0 g0", 1), ("g0*9999999999", 1),
        ):
            self.wrong(parse_schedule, text, column)

    def test_up_to_1000_actions(self):
        self.assertEqual(len(parse_schedule("g0*999 g1")), 1000)
        self.assertEqual(len(parse_schedule("g0*500 g1*500")), 1000)
        text = " ".join(["g0", "g1"] * 500)
        self.assertEqual(len(parse_schedule(text)), 1000)
        self.wrong(parse_schedule, text + " g0", len(text) + 2)


REGS = (1, 0, 255, 3)
EVENTS = (
    (("print", 0, 255), "print 0 255"),
    (("print", 1, 0), "print 1 0"),
    (("halt", 0), "halt 0"),
    (("halt", 1), "halt 1"),
    (("device", 3, 15, 255), "device 3 15 255"),
    (("device", 0, 0, 0), "device 0 0 0"),
    (("trap", 0, "read", 12, (5, 0, 0, 0), (0, 1)), "trap 0 read 12 5 0 0 0 0 1"),
    (("trap", 1, "interrupt", 63, REGS, (1, 0)), "trap 1 interrupt 63 1 0 255 3 1 0"),
    (("inspect", 1, 63, REGS, (1, 0), 1), "inspect 1 63 1 0 255 3 1 0 1"),
    (("inspect", 0, 0, (0, 0, 0, 0), (0, 0), 0), "inspect 0 0 0 0 0 0 0 0 0"),
)


class TestEvents(Texts):
    def test_kinds(self):
        self.same_kind(TRAP_KINDS, ("execute", "invalid", "level", "read", "write", "call", "interrupt"))
        for kind in TRAP_KINDS:
            event = ("trap", 0, kind, 0, REGS, (0, 0))
            self.assertEqual(format_event(event), f"trap 0 {kind} 0 1 0 255 3 0 0")
            self.same_kind(parse_event(format_event(event)), event)

    def test_texts(self):
        for event, text in EVENTS:
            self.assertEqual(format_event(event), text)
            self.same_kind(parse_event(text), event)

    def test_wrong_events(self):
        for event in (
            (), ("",), ("stop", 0), ("Print", 0, 0), ("print",), ("print", 0), ("print", 0, 0, 0), ("halt",),
            ("halt", 0, 0), ("device", 0, 0), ("device", 0, 0, 0, 0), ("trap", 0, "read", 0, REGS),
            ("trap", 0, "read", 0, REGS, (0, 0), 0), ("inspect", 0, 0, REGS, (0, 0)),
            ("inspect", 0, 0, REGS, (0, 0), 0, 0), ("trap", 0, "read", 0, (0, 0, 0), (0, 0)),
            ("trap", 0, "read", 0, (0,) * 5, (0, 0)), ("trap", 0, "read", 0, REGS, (0,)),
            ("trap", 0, "read", 0, REGS, (0, 0, 0)), ("inspect", 0, 0, (), (0, 0), 0),
            ("inspect", 0, 0, REGS, (), 0), ("trap", 0, "", 0, REGS, (0, 0)), ("trap", 0, "trap", 0, REGS, (0, 0)),
        ):
            self.refuses(SettingError, {"name": "event"}, format_event, event)

    def test_numbers_out_of_range(self):
        most = {
            "print": (1, 255), "halt": (1,), "device": (3, 15, 255),
            "trap": (1, "read", 63, (255,) * 4, (1,) * 2), "inspect": (1, 63, (255,) * 4, (1,) * 2, 1),
        }
        for name, parts in most.items():
            self.same_kind(parse_event(format_event((name,) + parts)), (name,) + parts)
            for at, part in enumerate(parts):
                for number in self.wrong_parts(part):
                    event = (name,) + parts[:at] + (number,) + parts[at + 1:]
                    self.refuses(SettingError, {"name": "event"}, format_event, event)

    def wrong_parts(self, part):
        if isinstance(part, str):
            return []
        if isinstance(part, int):
            return [-1, part + 1]
        return [part[:at] + (number,) + part[at + 1:] for at in range(len(part)) for number in (-1, part[at] + 1)]

    def test_a_wrong_space(self):
        for text, column in ((" ", 1), (" halt 0", 1), ("halt 0 ", 7), ("stop  0", 6), ("print 9  9", 9)):
            self.wrong(parse_event, text, column)

    def test_b_first_word(self):
        for text in ("", "stop", "Halt 0", "none", "0", "halt\n 0", "raise 0", "print\n1 2"):
            self.wrong(parse_event, text, 1)

    def test_c_count_of_words(self):
        for event, text in EVENTS:
            words = text.split(" ")
            for count in range(1, len(words)):
                row = " ".join(words[:1] + ["x"] * (count - 1))
                self.wrong(parse_event, row, len(row) + 1)
            self.wrong(parse_event, text + " 0 0", len(text) + 2)

    def test_d_words(self):
        for text, wrong in (
            ("print 1 255", ("2 256", "x 00")), ("halt 1", ("2",)), ("device 3 15 255", ("4 16 256",)),
            ("trap 1 read 63 255 255 255 255 1 1", ("2 x 64 256 256 256 256 2 2", "01 trap 00 -1 r0 x y z 2")),
            ("inspect 1 63 255 255 255 255 1 1 1", ("2 64 256 256 256 256 2 2 2",)),
        ):
            words = text.split(" ")
            for row in wrong:
                others = row.split(" ")
                for at in range(1, len(words)):
                    before = " ".join(words[:at])
                    self.wrong(parse_event, before + " " + " ".join(others[at - 1:]), len(before) + 2)


if __name__ == "__main__":
    unittest.main()
