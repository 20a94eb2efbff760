"""Points 46 to 49."""

import unittest

from checks import Checks, guest_with, machine_of
from guestlives.defer import translate
from guestlives.errors import InstructionError, SettingError
from guestlives.guest import Guest, build_guest
from guestlives.machine import Machine
from guestlives.making import build_block, capture_at, is_same, make_block
from guestlives.ops import OPS, encode
from guestlives.parts import Block, Part
from guestlives.policy import RULES, Policy

NOTHING = Policy.empty()
LETTERS = {"r": 1, "n": 200, "a": 33, "g": 2, "f": 3, "k": 5}
ALL = tuple((name, tuple(LETTERS[kind] for kind in kinds)) for name, kinds in OPS)
ENDING = ("halt", "jump", "jumpz", "jumpl", "call", "map", "right", "enable", "disable", "resume", "lower")
PRINTS = [("print", (number,)) for number in range(20)]


def names_of(block):
    return [part.name for part in block]


class TestCaptureAt(Checks):
    def test_each_instruction(self):
        for name, operands in ALL:
            machine = machine_of((name, operands), at=18, pages=((0, 7), (3, 1), (2, 7), (1, 7)), starts=(None, None))
            before = machine.key()
            part = capture_at(machine, 18)
            cells = tuple((1, 2 + at, 3, number) for at, number in enumerate(encode(name, operands)))
            self.assertIsInstance(part, Part)
            self.same_kind(part.key(), (18, name, operands, len(cells), cells, (), True, (), (), ()))
            self.assertEqual(machine.key(), before)

    def test_the_numbers_that_were_read(self):
        part = capture_at(Machine(guest_with([3, 7, 9])), 0)
        self.same_kind((part.operands, part.captured), ((3, 9), ((0, 0, 0, 3), (0, 1, 0, 7), (0, 2, 0, 9))))

    def test_over_the_end_of_a_page_and_of_the_addresses(self):
        pages = ((2, 1), (2, 7), (0, 7), (1, 5))
        part = capture_at(machine_of(("store", (5, 1)), at=63, pages=pages), 63)
        self.same_kind((part.address, part.captured, part.fall_through),
                       (63, ((3, 15, 1, 8), (0, 0, 2, 5), (0, 1, 2, 1)), 2))
        part = capture_at(machine_of(("print", (5,)), at=15, pages=pages), 15)
        self.same_kind(part.captured, ((0, 15, 2, 1), (1, 0, 2, 5)))

    def test_none_where_fetching_gives_a_kind(self):
        for numbers in ([19], [255], [3]):
            machine = Machine(guest_with(numbers, pages=((0, 6), (1, 7), (2, 7), (3, 7))))
            self.assertIsNone(capture_at(machine, 0))
        self.assertIsNone(capture_at(Machine(guest_with([19])), 0))
        self.assertIsNone(capture_at(machine_of(("print", (1,)), at=15, pages=((0, 7), (1, 6), (2, 7), (3, 7))), 15))
        self.assertIsNotNone(capture_at(machine_of(("halt", ()), at=15, pages=((0, 7), (1, 6), (2, 7), (3, 7))), 15))


class TestMakeBlock(Checks):
    def test_a_block(self):
        machine = machine_of(("set", (0, 5)), ("print", (1,)), ("halt", ()), at=3)
        before = machine.key()
        for level in (0, 1):
            block = make_block(machine, 3, level, NOTHING, 8)
            self.assertIsInstance(block, Block)
            self.assertEqual((block.entry, block.level, block.serial, block.valid, block.links, block.counts),
                             (3, level, 0, True, {}, {}))
            self.assertEqual([(part.address, part.name, part.operands) for part in block],
                             [(3, "set", (0, 5)), (6, "print", (1,)), (8, "halt", ())])
            self.assertEqual(list(block.captured_cells()), [(0, 3 + at, 0, number) for at, number in
                                                            enumerate([3, 0, 5, 1, 1, 0])])
        self.assertEqual(machine.key(), before)

    def test_it_stops_behind_what_ends_a_block(self):
        for name, operands in ALL:
            machine = machine_of(("print", (1,)), (name, operands), ("print", (2,)), ("halt", ()))
            wanted = ["print", name] if name in ENDING else ["print", name, "print", "halt"]
            self.assertEqual(names_of(make_block(machine, 0, 1, NOTHING, 8)), wanted)
            self.assertEqual(names_of(make_block(machine, 2, 1, NOTHING, 8)), wanted[1:])

    def test_stop_store(self):
        machine = machine_of(("print", (1,)), ("store", (9, 1)), ("load", (1, 9)), ("halt", ()))
        self.assertEqual(names_of(make_block(machine, 0, 1, Policy(["stop_store"]), 8)), ["print", "store"])
        self.assertEqual(names_of(make_block(machine, 2, 1, Policy(["stop_store"]), 8)), ["store"])
        self.assertEqual(names_of(make_block(machine, 5, 1, Policy(["stop_store"]), 8)), ["load", "halt"])
        self.assertEqual(names_of(make_block(machine, 0, 1, NOTHING, 8)), ["print", "store", "load", "halt"])

    def test_longest_and_single(self):
        machine = machine_of(*PRINTS)
        for longest in range(1, 9):
            self.assertEqual(len(make_block(machine, 0, 1, NOTHING, longest).parts), longest)
            self.assertEqual(len(make_block(machine, 0, 1, Policy(["single"]), longest).parts), 1)
        for policy in (NOTHING, Policy(["single"]), Policy.full()):
            for longest in (-1, 0, 9, 100):
                self.refuses(SettingError, {"name": "longest"}, make_block, machine, 0, 1, policy, longest)

    def test_it_stops_ahead_of_what_cannot_be_fetched(self):
        machine = Machine(guest_with([1, 1, 1, 2, 19]))
        self.assertEqual(names_of(make_block(machine, 0, 1, NOTHING, 8)), ["print", "print"])
        self.assertIsNone(make_block(machine, 4, 1, NOTHING, 8))
        pages = ((0, 7), (1, 6), (2, 7), (3, 7))
        machine = machine_of(("print", (1,)), ("print", (2,)), at=13, pages=pages)
        self.assertEqual(names_of(make_block(machine, 13, 1, NOTHING, 8)), ["print"])
        self.assertIsNone(make_block(machine, 15, 1, NOTHING, 8))
        self.assertIsNone(make_block(machine, 16, 1, NOTHING, 8))

    def test_stop_page(self):
        machine = machine_of(("print", (1,)), ("print", (2,)), ("print", (3,)), ("halt", ()), at=12)
        for entry, wanted in ((12, 2), (14, 1), (16, 2)):
            self.assertEqual(len(make_block(machine, entry, 1, Policy(["stop_page"]), 8).parts), wanted)
        self.assertEqual(len(make_block(machine, 12, 1, NOTHING, 8).parts), 4)
        machine = machine_of(("print", (1,)), ("set", (0, 1)), ("halt", ()), at=12)
        self.assertEqual(names_of(make_block(machine, 12, 1, Policy(["stop_page"]), 8)), ["print"])
        self.assertIsNone(make_block(machine, 14, 1, Policy(["stop_page"]), 8))
        self.assertEqual(names_of(make_block(machine, 14, 1, NOTHING, 8)), ["set", "halt"])

    def test_pages_count_and_not_frames(self):
        pages = ((0, 7), (0, 7), (2, 7), (3, 7))
        machine = machine_of(("print", (1,)), ("halt", ()), at=14, pages=pages)
        self.assertEqual(names_of(make_block(machine, 14, 1, Policy(["stop_page"]), 8)), ["print"])
        self.assertEqual(names_of(make_block(machine, 14, 1, NOTHING, 8)), ["print", "halt"])

    def test_over_the_end_of_the_addresses(self):
        block = make_block(machine_of(("print", (1,)), ("set", (1, 2)), ("halt", ()), at=60), 60, 1, NOTHING, 8)
        self.assertEqual([part.address for part in block], [60, 62, 1])
        self.assertEqual([cell[:2] for cell in block.captured_cells()],
                         [(3, 12), (3, 13), (3, 14), (3, 15), (0, 0), (0, 1)])

    def test_small_steps_of_the_whole_row(self):
        instructions = [("set", (0, 5)), ("move", (1, 0)), ("set", (0, 6)), ("show", (1,)), ("jump", (3,))]
        for rules in ((), ("keep_dropped",), ("flush_exit", "flush_fault"), ("eager",)):
            block = make_block(machine_of(*instructions), 0, 0, Policy(rules), 8)
            found = [(part.before, part.done, part.after, part.start_map, part.deed_map) for part in block]
            self.same_kind(found, translate(instructions, 0, Policy(rules)))
        # Only the row that was read is translated: the second set is not known to come.
        block = make_block(machine_of(("set", (0, 5)), ("set", (0, 6))), 0, 1, NOTHING, 1)
        self.assertEqual((block.parts[0].start_map, block.parts[0].done, block.parts[0].after), ({}, False, ()))


class TestBuildBlock(Checks):
    def test_new_parts_with_small_steps_of_their_own(self):
        first = Part(9, "set", (0, 5), 3, ((0, 9, 0, 3),), before=((3, ("set", 1)),), done=True,
                     after=((2, ("set", 2)),), start_map={1: ("set", 3)}, deed_map={1: ("set", 4)})
        second = Part(20, "enable", (), 1, (), start_map={1: ("set", 3)})
        before = (first.key(), second.key())
        for parts in ([first, second], (first, second)):
            block = build_block(7, 0, parts, Policy(["flush_fault", "keep_dropped"]))
            self.assertEqual((block.entry, block.level), (7, 0))
            five = ((0, ("set", 5)),)
            self.same_kind([part.key() for part in block], [
                (9, "set", (0, 5), 3, ((0, 9, 0, 3),), (), False, (), (), ()),
                (20, "enable", (), 1, (), five, True, (), five, ()),
            ])
            for part in block:
                self.assertNotIn(part, (first, second))
            block.parts[0].start_map[3] = "x"
        self.assertEqual((first.key(), second.key()), before)
        block = build_block(7, 1, [first, second], Policy(["flush_fault", "keep_dropped"]))
        self.assertEqual(block.parts[1].before, ())

    def test_no_parts(self):
        for rules in ((), RULES):
            block = build_block(7, 1, (), Policy(rules))
            self.assertEqual(block.key(), (7, 1, (), 0, True, (), ()))

    def test_no_rule_shortens_it(self):
        machine = machine_of(("store", (1, 1)), ("jump", (0,)), ("print", (1,)))
        parts = [capture_at(machine, address) for address in (0, 3, 5)]
        self.assertEqual(names_of(build_block(0, 1, parts, Policy.full())), ["store", "jump", "print"])

    def test_wrong_instructions(self):
        self.refuses(InstructionError, {"name": "nothing"}, build_block, 0, 1, [Part(0, "nothing", (), 1, ())], NOTHING)


class TestIsSame(Checks):
    def setUp(self):
        self.guest = build_guest([(14, [("print", (1,)), ("print", (2,)), ("halt", ())])])
        self.machine = Machine(self.guest)
        self.block = make_block(self.machine, 14, 1, NOTHING, 8)

    def same(self, pc=14, level=1):
        before = (self.machine.key(), self.block.key())
        found = is_same(self.machine, self.block, pc, level)
        self.assertEqual((self.machine.key(), self.block.key()), before)
        self.assertIsInstance(found, bool)
        return found

    def test_pc_and_level(self):
        self.assertTrue(self.same())
        self.assertFalse(self.same(pc=16))
        self.assertFalse(self.same(level=0))
        other = make_block(self.machine, 14, 0, NOTHING, 8)
        self.assertTrue(is_same(self.machine, other, 14, 0))
        self.assertFalse(is_same(self.machine, other, 14, 1))

    def test_an_invalid_block(self):
        self.block.valid = False
        self.assertTrue(self.same())

    def test_each_cell(self):
        for frame, offset, number in ((0, 14, 1), (0, 15, 1), (1, 0, 1), (1, 1, 2), (1, 2, 0)):
            self.machine.frames[frame][offset] = number + 19
            self.assertFalse(self.same())
            self.machine.frames[frame][offset] = number
            self.assertTrue(self.same())
        for frame, offset in ((0, 13), (1, 3), (2, 14), (3, 0)):
            self.machine.frames[frame][offset] = 99
        self.assertTrue(self.same())

    def test_the_numbers_count_and_not_the_operands(self):
        machine = Machine(guest_with([2, 1]))
        block = make_block(machine, 0, 1, NOTHING, 1)
        machine.frames[0][1] = 5
        self.assertFalse(is_same(machine, block, 0, 1))

    def test_frames(self):
        for page in (0, 1):
            self.machine.frames[2] = list(self.machine.frames[page])
            self.machine.pages[page] = (2, 7)
            self.assertFalse(self.same())
            self.machine.pages[page] = (page, 7)
        self.machine.pages[2] = (0, 7)
        self.assertTrue(self.same())

    def test_the_execute_right(self):
        for page in (0, 1):
            for rights in range(8):
                self.machine.pages[page] = (page, rights)
                self.assertIs(self.same(), rights in (1, 3, 5, 7))
            self.machine.pages[page] = (page, 7)
        self.machine.pages[2] = (2, 0)
        self.assertTrue(self.same())

    def test_a_block_without_parts(self):
        machine = Machine(Guest.blank())
        self.assertIs(is_same(machine, Block(3, 1, []), 3, 1), True)
        self.assertIs(is_same(machine, Block(3, 1, []), 4, 1), False)


if __name__ == "__main__":
    unittest.main()
