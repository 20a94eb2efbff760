"""Points 3, 4 and 13."""

import unittest

from checks import Checks, blank_frames
from guestlives.guest import Guest
from guestlives.machine import Machine, Processor, next_address

START = (0, (0, 0, 0, 0), (0, 0), 1, False, False, (0, 1, False), False)
PAGES = ((2, 7), (2, 3), (0, 0), (1, 5))


def numbered_guest():
    frames = [[16 * frame + offset for offset in range(16)] for frame in range(4)]
    return Guest(frames, PAGES, (5, None), (60, 61), ((0, 0, 1),))


class TestAddresses(Checks):
    def test_next_address(self):
        self.assertEqual(next_address(0, 1), 1)
        self.assertEqual(next_address(62, 1), 63)
        self.assertEqual(next_address(63, 1), 0)
        self.assertEqual(next_address(62, 3), 1)
        self.assertEqual(next_address(63, 0), 63)

    def test_places_numbers_and_rights(self):
        machine = Machine(numbered_guest())
        for address in range(64):
            frame, rights = PAGES[address // 16]
            self.same_kind(machine.place(address), (frame, address % 16))
            self.assertEqual(machine.number_at(address), 16 * frame + address % 16)
            self.assertEqual(machine.rights_at(address), rights)

    def test_places_follow_the_page_table_of_now(self):
        machine = Machine(numbered_guest())
        machine.pages[3] = (3, 2)
        machine.frames[3][15] = 200
        self.assertEqual(machine.place(63), (3, 15))
        self.assertEqual(machine.number_at(63), 200)
        self.assertEqual(machine.rights_at(63), 2)


class TestProcessor(Checks):
    def test_start(self):
        self.same_kind(Processor(0).key(), START)
        self.same_kind(Processor(63).key(), (63,) + START[1:])
        self.same_kind(Processor(None).key(), START[:7] + (True,))

    def test_attributes(self):
        processor = Processor(7)
        self.assertEqual(vars(processor), {
            "pc": 7, "regs": [0, 0, 0, 0], "zero": 0, "less": 0, "level": 1, "enabled": False, "pending": False,
            "saved": (0, 1, False), "halted": False,
        })

    def changed(self):
        processor = Processor(7)
        processor.regs = [1, 2, 3, 4]
        processor.zero, processor.less, processor.level = 1, 0, 0
        processor.enabled, processor.pending, processor.halted = True, False, True
        processor.saved = (9, 0, True)
        return processor

    def test_key(self):
        self.same_kind(self.changed().key(), (7, (1, 2, 3, 4), (1, 0), 0, True, False, (9, 0, True), True))

    def test_each_attribute_is_in_the_key(self):
        for name, value in (
            ("pc", 8), ("regs", [1, 2, 3, 5]), ("zero", 0), ("less", 1), ("level", 1), ("enabled", False),
            ("pending", True), ("saved", (9, 0, False)), ("halted", False),
        ):
            processor = self.changed()
            setattr(processor, name, value)
            self.assertNotEqual(processor.key(), self.changed().key(), name)
            self.assertEqual(processor.copy().key(), processor.key(), name)

    def test_a_copy_shares_nothing(self):
        processor = self.changed()
        other = processor.copy()
        self.assertEqual(other.key(), processor.key())
        other.regs[0] = 99
        other.pc = 1
        other.saved = (0, 0, False)
        self.assertEqual(processor.key(), self.changed().key())
        processor.regs[3] = 77
        self.assertEqual(other.regs, [99, 2, 3, 4])


class TestMachine(Checks):
    def test_new_machine(self):
        guest = numbered_guest()
        machine = Machine(guest)
        self.assertIs(machine.guest, guest)
        self.same_kind(machine.frames, [list(frame) for frame in guest.frames])
        self.same_kind(machine.pages, list(PAGES))
        self.assertEqual(type(machine.processors), list)
        self.assertEqual([processor.key() for processor in machine.processors],
                         [(5,) + START[1:], START[:7] + (True,)])
        self.assertEqual(machine.written, 0)

    def test_key(self):
        guest = numbered_guest()
        machine = Machine(guest)
        machine.written = 1
        self.same_kind(machine.key(), (guest.frames, PAGES, ((5,) + START[1:], START[:7] + (True,)), 1))

    def test_the_guest_is_not_changed(self):
        guest = numbered_guest()
        before = guest.key()
        machine = Machine(guest)
        machine.frames[0][0] = 200
        machine.pages[0] = (3, 3)
        self.assertEqual(guest.key(), before)
        self.assertEqual(Machine(guest).number_at(32), 0)

    def test_each_part_is_in_the_key(self):
        first = Machine(numbered_guest()).key()
        changes = (
            lambda machine: machine.frames[3].__setitem__(15, 0),
            lambda machine: machine.pages.__setitem__(3, (1, 4)),
            lambda machine: machine.processors[1].regs.__setitem__(3, 1),
            lambda machine: setattr(machine.processors[0], "pending", True),
            lambda machine: setattr(machine, "written", 1),
        )
        for change in changes:
            machine = Machine(numbered_guest())
            change(machine)
            self.assertNotEqual(machine.key(), first)
            self.assertEqual(machine.copy().key(), machine.key())

    def test_a_copy_shares_nothing(self):
        machine = Machine(numbered_guest())
        machine.frames[1][1] = 99
        machine.pages[1] = (1, 1)
        machine.processors[0].regs[1] = 5
        machine.written = 1
        before = machine.key()
        other = machine.copy()
        self.assertIsInstance(other, Machine)
        self.assertIs(other.guest, machine.guest)
        self.assertEqual(other.key(), before)
        other.frames[0][0] = 200
        other.frames.append([])
        other.pages[0] = (3, 3)
        other.processors[0].regs[0] = 9
        other.processors[1].halted = False
        other.processors.append(Processor(0))
        other.written = 0
        self.assertEqual(machine.key(), before)

    def test_both_processors_share_the_cells(self):
        machine = Machine(Guest(blank_frames(), starts=(0, 0)))
        machine.frames[0][0] = 8
        self.assertEqual(machine.number_at(0), 8)
        self.assertIsNot(machine.processors[0], machine.processors[1])
        self.assertIsNot(machine.processors[0].regs, machine.processors[1].regs)


if __name__ == "__main__":
    unittest.main()
