"""Point 127."""

import unittest

from checks import Checks, machine_of
from guestlives.errors import SettingError
from guestlives.plain import PlainRun
from guestlives.stops import AddressStop, CellStop, EventStop, Stop
from guestlives.guest import Guest

EVENTS = (("print", 0, 5), ("halt", 0), ("device", 1, 2, 3), ("trap", 0, "read", 12, (5, 0, 0, 0), (0, 1)),
          ("inspect", 0, 12, (5, 0, 0, 0), (0, 1), 1))


class TestStop(Checks):
    def test_never_met(self):
        machine = machine_of(("halt", ()))
        for events in ([], list(EVENTS)):
            self.assertIs(Stop()(machine, events), False)


class TestAddressStop(Checks):
    def test_attributes(self):
        for p, address in ((0, 0), (1, 63)):
            stop = AddressStop(p, address)
            self.assertIsInstance(stop, Stop)
            self.same_kind((stop.p, stop.address), (p, address))
        self.assertEqual(vars(AddressStop(p=1, address=7)), {"p": 1, "address": 7})

    def test_met_and_not_met(self):
        machine = machine_of(("halt", ()), at=5, starts=(5, 9))
        for p, address, wanted in ((0, 5, True), (0, 9, False), (1, 9, True), (1, 5, False), (0, 4, False)):
            self.assertIs(AddressStop(p, address)(machine, []), wanted)
            self.assertIs(AddressStop(p, address)(machine, list(EVENTS)), wanted)
        machine.processors[0].pc = 63
        self.assertIs(AddressStop(0, 63)(machine, []), True)

    def test_not_met_by_a_halted_processor(self):
        machine = machine_of(("halt", ()))
        self.assertIs(AddressStop(0, 0)(machine, []), True)
        machine.processors[0].halted = True
        self.assertIs(AddressStop(0, 0)(machine, []), False)
        # A processor without a start address is halted at 0.
        self.assertIs(AddressStop(1, 0)(machine, []), False)

    def test_wrong_values(self):
        for p in (-1, 2):
            for address in (-1, 0, 64):
                self.refuses(SettingError, {"name": "processor"}, AddressStop, p, address)
        for address in (-1, 64):
            self.refuses(SettingError, {"name": "address"}, AddressStop, 0, address)
            self.refuses(SettingError, {"name": "address"}, AddressStop, 1, address)


class TestCellStop(Checks):
    def test_attributes(self):
        for frame, offset, number in ((0, 0, 0), (3, 15, 255)):
            stop = CellStop(frame, offset, number)
            self.assertIsInstance(stop, Stop)
            self.assertEqual(vars(stop), {"frame": frame, "offset": offset, "number": number})

    def test_met_and_not_met(self):
        machine = machine_of(("print", (7,)), at=16, pages=((0, 7), (3, 7), (2, 7), (1, 7)))
        for frame, offset, number, wanted in ((3, 0, 1, True), (3, 1, 7, True), (3, 1, 6, False), (1, 1, 7, False),
                                              (1, 0, 0, True), (3, 15, 0, True), (0, 1, 7, False)):
            self.assertIs(CellStop(frame, offset, number)(machine, []), wanted)
            self.assertIs(CellStop(frame, offset, number)(machine, list(EVENTS)), wanted)
        machine.frames[2][3] = 255
        self.assertIs(CellStop(2, 3, 255)(machine, []), True)

    def test_wrong_values(self):
        for frame in (-1, 4):
            for offset, number in ((0, 0), (16, 256), (-1, -1)):
                self.refuses(SettingError, {"name": "frame"}, CellStop, frame, offset, number)
        for offset in (-1, 16):
            for number in (-1, 0, 256):
                self.refuses(SettingError, {"name": "offset"}, CellStop, 3, offset, number)
        for number in (-1, 256):
            self.refuses(SettingError, {"name": "number"}, CellStop, 0, 15, number)


class TestEventStop(Checks):
    def test_names(self):
        machine = machine_of(("halt", ()))
        names = [event[0] for event in EVENTS]
        for name in names:
            stop = EventStop(name)
            self.assertIsInstance(stop, Stop)
            self.assertEqual(vars(stop), {"name": name})
            self.assertIs(stop(machine, []), False)
            self.assertIs(stop(machine, list(EVENTS)), True)
            for event in EVENTS:
                self.assertIs(stop(machine, [event]), event[0] == name)
            self.assertIs(stop(machine, [event for event in EVENTS if event[0] != name]), False)

    def test_wrong_names(self):
        for name in ("", "Print", "prints", "read", "interrupt", "none", "g0"):
            self.refuses(SettingError, {"name": "name"}, EventStop, name)


class TestNothingIsChanged(Checks):
    def test_the_machine_and_the_events_stay(self):
        run = PlainRun(Guest.blank())
        key = run.machine.key()
        for stop in (Stop(), AddressStop(0, 0), CellStop(0, 0, 0), EventStop("halt")):
            events = list(EVENTS)
            stop(run.machine, events)
            self.assertEqual((run.machine.key(), events), (key, list(EVENTS)))


if __name__ == "__main__":
    unittest.main()
