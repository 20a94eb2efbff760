"""Points 117 and 119."""

import unittest
from random import Random

from checks import Checks, guest_of_texts, guest_with
from guestlives.errors import SettingError
from guestlives.joining import join_addresses, make_joined
from guestlives.machine import Machine
from guestlives.making import build_block, capture_at, make_block
from guestlives.parts import Block, Part
from guestlives.perform import perform
from guestlives.policy import RULES, Policy
from runs import any_guest

NONE = Policy.empty()
TWO = ((0, "print 1; jump 10"), (10, "print 2; jump 0"))


def machine_of_texts(*programs, **named):
    return Machine(guest_of_texts(programs, **named))


def addresses_of(block):
    return [part.address for part in block.parts]


class TestJoinAddresses(Checks):
    def test_addresses(self):
        parts = [Part(address, "print", (1,), 2, ()) for address in (3, 5, 7)]
        a = Block(3, 1, parts)
        b = Block(40, 0, [Part(address, "show", (1,), 2, ()) for address in (40, 62, 0)])
        self.same_kind(join_addresses(a, 0, b), [3, 40, 62, 0])
        self.same_kind(join_addresses(a, 1, b), [3, 5, 40, 62, 0])
        self.same_kind(join_addresses(a, 2, b), [3, 5, 7, 40, 62, 0])
        self.same_kind(join_addresses(a, 2, Block(1, 1, [])), [3, 5, 7])
        self.same_kind(join_addresses(a, 1, a), [3, 5, 3, 5, 7])
        self.assertEqual(addresses_of(a), [3, 5, 7])

    def test_blocks_of_a_machine(self):
        machine = machine_of_texts(*TWO)
        a, b = make_block(machine, 0, 1, NONE, 4), make_block(machine, 10, 1, NONE, 4)
        self.same_kind(join_addresses(a, 1, b), [0, 2, 10, 12])
        self.same_kind(join_addresses(a, 0, b), [0, 10, 12])


class TestMakeJoined(Checks):
    def joined(self, machine, addresses, names=(), most=16, level=1):
        """The addresses of the joined block, which has the parts and the small steps of its instructions."""
        policy = Policy(names)
        before, path = machine.key(), list(addresses)
        block = make_joined(machine, addresses, level, policy, most)
        self.assertEqual((machine.key(), addresses), (before, path))
        if block is None:
            return None
        parts = [capture_at(machine, address) for address in addresses_of(block)]
        self.assertEqual(block.key(), build_block(addresses[0], level, parts, policy).key())
        self.assertEqual(addresses_of(block), addresses[:len(block.parts)])
        return addresses_of(block)

    def test_along_the_path(self):
        machine = machine_of_texts(*TWO)
        for level in (0, 1):
            block = make_joined(machine, [0, 2, 10, 12], level, Policy(["eager"]), 8)
            self.assertIsInstance(block, Block)
            self.same_kind((block.entry, block.level, block.serial, block.valid), (0, level, 0, True))
            self.same_kind([(part.address, part.name, part.operands) for part in block],
                           [(0, "print", (1,)), (2, "jump", (10,)), (10, "print", (2,)), (12, "jump", (0,))])
            self.same_kind(block.exits(), [(3, 1)])
        self.assertEqual(self.joined(machine, [2, 10, 12, 0, 2]), [2, 10, 12, 0, 2])
        self.assertEqual(self.joined(machine, [12]), [12])

    def test_small_steps_go_over_the_jumps(self):
        machine = machine_of_texts((0, "set r0 5; jump 10"), (10, "set r1 6; jump 0"))
        block = make_joined(machine, [0, 3, 10, 13], 1, Policy(["flush_exit"]), 8)
        self.assertEqual([part.before for part in block],
                         [(), ((0, ("set", 5)),), (), ((1, ("set", 6)),)])
        block = make_joined(machine, [0, 3, 10, 13], 1, NONE, 8)
        self.assertEqual(block.parts[3].start_map, {0: ("set", 5), 1: ("set", 6)})

    def test_ahead_of_what_cannot_be_read(self):
        machine = Machine(guest_with([1, 2, 9, 10, 0, 0, 0, 0, 0, 0, 200], pages=((0, 7), (1, 6), (2, 7), (3, 7))))
        self.assertEqual(self.joined(machine, [0, 2, 10]), [0, 2])
        self.assertIsNone(self.joined(machine, [10, 11]))
        self.assertIsNone(self.joined(machine, [16]))
        machine = machine_of_texts((0, "jump 15"), (15, "print 1; jump 0"), pages=((0, 7), (1, 6), (2, 7), (3, 7)))
        self.assertEqual(self.joined(machine, [0, 15, 17]), [0])

    def test_ahead_of_another_page_with_stop_page(self):
        machine = machine_of_texts((0, "jump 14"), (14, "print 1; print 2; jump 0"))
        self.assertEqual(self.joined(machine, [0, 14, 16, 18]), [0, 14, 16, 18])
        self.assertEqual(self.joined(machine, [0, 14, 16, 18], ["stop_page"]), [0, 14])
        # The page of the first address decides, also where the second cell alone lies in another one.
        self.assertEqual(self.joined(machine, [16, 18], ["stop_page"]), [16, 18])
        machine = machine_of_texts((0, "jump 15"), (15, "print 1; jump 0"))
        self.assertEqual(self.joined(machine, [0, 15, 17], ["stop_page"]), [0])
        self.assertIsNone(self.joined(machine, [15, 17], ["stop_page"]))
        self.assertEqual(self.joined(machine, [15, 17, 0]), [15, 17, 0])

    def test_ahead_of_an_address_to_which_the_instruction_does_not_lead(self):
        machine = machine_of_texts(*TWO)
        self.assertEqual(self.joined(machine, [0, 10]), [0])
        self.assertEqual(self.joined(machine, [0, 2, 4]), [0, 2])
        self.assertEqual(self.joined(machine, [2, 4]), [2])
        self.assertEqual(self.joined(machine, [0, 1]), [0])
        for name in ("jumpz", "jumpl"):
            machine = machine_of_texts((0, f"{name} 10; print 3"), (10, f"{name} 0; print 4"))
            self.assertEqual(self.joined(machine, [0, 10, 0, 2]), [0, 10, 0, 2])
            self.assertEqual(self.joined(machine, [0, 2]), [0, 2])
            self.assertEqual(self.joined(machine, [10, 12]), [10, 12])
            self.assertEqual(self.joined(machine, [0, 12]), [0])
            self.assertEqual(self.joined(machine, [10, 2]), [10])

    def test_over_the_last_address(self):
        machine = Machine(guest_with([1, 5, 9, 63], 63))
        self.assertEqual(self.joined(machine, [63, 1, 63]), [63, 1, 63])

    def test_behind_what_is_not_linkable(self):
        for text in ("halt", "call", "lower", "enable", "disable", "resume", "map 1 1", "right 1 7"):
            machine = machine_of_texts((0, "jump 10"), (10, f"{text}; print 2"))
            behind = 10 + capture_at(machine, 10).size
            self.assertEqual(self.joined(machine, [0, 10, behind]), [0, 10], text)
            self.assertEqual(self.joined(machine, [10, behind]), [10], text)

    def test_behind_a_store(self):
        machine = machine_of_texts((0, "jump 10"), (10, "store 40 r0; load r1 40; print 2"))
        self.assertEqual(self.joined(machine, [0, 10, 13, 16]), [0, 10, 13, 16])
        self.assertEqual(self.joined(machine, [0, 10, 13, 16], ["stop_store"]), [0, 10])
        self.assertEqual(self.joined(machine, [13, 16], ["stop_store"]), [13, 16])

    def test_most(self):
        machine = machine_of_texts((0, "jump 0"))
        for most in range(1, 17):
            self.assertEqual(self.joined(machine, [0] * 20, most=most), [0] * most)
        self.assertEqual(self.joined(machine, [0] * 3, most=16), [0] * 3)
        for most in (-1, 0, 17):
            for address in (0, 1):
                self.refuses(SettingError, {"name": "most"}, make_joined, machine, [address], 1, NONE, most)

    def test_single_plays_no_role(self):
        machine = machine_of_texts(*TWO)
        self.assertEqual(self.joined(machine, [0, 2, 10, 12], ["single"]), [0, 2, 10, 12])

    def test_as_the_machine_is_now(self):
        machine = machine_of_texts(*TWO)
        machine.frames[0][3] = 12
        self.assertEqual(self.joined(machine, [0, 2, 10, 12]), [0, 2])
        self.assertEqual(self.joined(machine, [0, 2, 12, 0]), [0, 2, 12, 0])
        machine.pages[0] = (1, 7)
        self.assertEqual(self.joined(machine, [0, 2]), [0])

    def test_a_jump_in_the_midst(self):
        # At 0 a jump by the flag zero to 10; the joined block goes on where it does jump.
        machine = machine_of_texts((0, "jumpz 10; print 3"), (10, "print 4; halt"))
        block = make_joined(machine, [0, 10, 12], 1, NONE, 8)
        self.assertEqual(block.exits(), [(0, 0)])
        for zero, wanted in ((0, 2), (1, 10)):
            machine.processors[0].zero = zero
            self.assertEqual(perform(machine, 0, block, 0, NONE, []), ([], [], zero))
            self.assertEqual(machine.processors[0].pc, wanted)
            machine.processors[0].pc = 0

    def test_many_paths(self):
        random = Random(22)
        for _ in range(150):
            machine = Machine(any_guest(random, False, False))
            names = [name for name in RULES if random.randrange(3) == 0]
            path = [random.randrange(64)]
            for _ in range(random.randrange(12)):
                part = capture_at(machine, path[-1])
                choices = [random.randrange(64)] if part is None else [part.fall_through, part.fall_through, 7]
                if part is not None and part.name[:4] == "jump":
                    choices.append(part.operands[0])
                path.append(random.choice(choices))
            found = self.joined(machine, path, names, random.randrange(1, 17), random.randrange(2))
            if found is not None:
                self.assertEqual(found, path[:len(found)])


if __name__ == "__main__":
    unittest.main()
