"""Points 133 and 134."""

import unittest

from checks import Checks, guest_of_texts
from guestlives.debugger import Debugger
from guestlives.errors import SettingError
from guestlives.guest import Guest
from guestlives.house import house_guest
from guestlives.journal import bill, cost_lines, journal, journal_line
from guestlives.policy import Policy

TRAP = ("trap", 0, "read", 12, (5, 0, 0, 0), (0, 1))
SAFE = Policy(["single", "eager", "check_entry"])


class TestJournalLine(Checks):
    def test_lines(self):
        for number, action, events, wanted in (
            (1, "g0", [], "   1 g0 -"), (1, "d", [], "   1 d  -"), (12, "d", [("device", 0, 1, 2)], "  12 d  device 0 1 2"),
            (123, "g1", (("halt", 1),), " 123 g1 halt 1"), (1000, "i0", (), "1000 i0 -"),
            (12345, "g0", [("print", 0, 255)], "12345 g0 print 0 255"), (0, "d", (), "   0 d  -"),
            (7, "g0", [("print", 0, 1), ("halt", 0), TRAP],
             "   7 g0 print 0 1; halt 0; trap 0 read 12 5 0 0 0 0 1"),
            (2, "", (), "   2    -"), (3, "something", [("halt", 0)], "   3 something halt 0"),
        ):
            self.same_kind(journal_line(number, action, events), wanted)

    def test_wrong_events(self):
        for event in ((), ("x", 0), ("print", 0), ("print", 0, 256), ("halt", 2), ("trap", 0, "x") + TRAP[3:]):
            self.refuses(SettingError, {"name": "event"}, journal_line, 1, "g0", [("halt", 0), event])


class TestJournal(Checks):
    def test_the_log(self):
        guest = guest_of_texts([(0, "print 7; call; halt")], handlers=(3, 60), writes=[(3, 0, 1)])
        debugger = Debugger(guest, SAFE)
        self.same_kind(journal(debugger), [])
        debugger.run(["g0", "r1", "d", "g0", "i1", "g0"])
        self.same_kind(journal(debugger), [
            "   1 g0 print 0 7", "   2 r1 -", "   3 d  device 3 0 1", "   4 g0 trap 0 call 2 0 0 0 0 0 0",
            "   5 i1 inspect 1 0 0 0 0 0 0 0 1", "   6 g0 halt 0"])
        debugger.back(2)
        self.assertEqual(len(journal(debugger)), 4)
        debugger.forward(1)
        self.assertEqual(journal(debugger)[4], "   5 i1 inspect 1 0 0 0 0 0 0 0 1")

    def test_a_long_log(self):
        debugger = Debugger(Guest.blank(), SAFE)
        debugger.run(["r0"] * 1001)
        self.assertEqual((journal(debugger)[-1], journal(debugger)[999]), ("1001 r0 -", "1000 r0 -"))


class TestCostLines(Checks):
    def test_lines(self):
        self.same_kind(cost_lines({}), ["total              0"])
        self.same_kind(cost_lines({"placed": 3}), ["placed             3", "total              3"])
        self.same_kind(cost_lines({"b": 999, "a": 1000, "invalidated": 12345, "c": 0}), [
            "b                999", "a              1,000", "invalidated   12,345", "c                  0",
            "total         14,344"])

    def test_nothing_is_cut_off(self):
        self.same_kind(cost_lines({"a much longer name": 1234567, "exactly 12 c": 12345678, "": 123456789}), [
            "a much longer name1,234,567", "exactly 12 c12,345,678", "            123,456,789", "total       137,037,034"])

    def test_the_name_total(self):
        self.same_kind(cost_lines({"total": 5}), ["total              5", "total              5"])

    def test_the_counts_of_a_host(self):
        debugger = Debugger(house_guest("sum", 2), SAFE)
        debugger.run(["g0"] * 16)
        lines = cost_lines(debugger.host.counts)
        self.assertEqual([line[:12].rstrip() for line in lines], list(debugger.host.COUNTS) + ["total"])
        self.assertEqual(lines[-1].split()[1], str(sum(debugger.host.counts.values())))


class TestBill(Checks):
    def test_bills(self):
        counts = {"placed": 3, "found": 10, "checked": 0}
        for prices, wanted in (({}, 13), ({"placed": 1000}, 3010), ({"found": 0}, 3), ({"checked": 9}, 13),
                               ({"found": 2, "placed": 5, "checked": 1000}, 35)):
            self.same_kind(bill(counts, prices), wanted)
        self.same_kind(bill({}, {}), 0)
        self.same_kind(bill({"x": 10 ** 12}, {"x": 1000}), 10 ** 15)

    def test_wrong_prices(self):
        counts = {"placed": 3, "found": 10}
        for prices in ({"x": 1}, {"placed": 1, "Found": 1}, {"placed": -1, "total": 1}, {"placed": 1001, "": 5}):
            self.refuses(SettingError, {"name": "name"}, bill, counts, prices)
        self.refuses(SettingError, {"name": "name"}, bill, {}, {"placed": 1})
        for prices in ({"placed": -1}, {"placed": 1001}, {"placed": 0, "found": 1001}):
            self.refuses(SettingError, {"name": "prices"}, bill, counts, prices)
        self.assertEqual(counts, {"placed": 3, "found": 10})


if __name__ == "__main__":
    unittest.main()
