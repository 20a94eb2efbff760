"""Point 107."""

import unittest
from random import Random

from checks import Checks, guest_of, guest_with, machine_of
from guestlives.errors import SettingError
from guestlives.graph import block_graph
from guestlives.guest import Guest
from guestlives.machine import Machine
from guestlives.making import make_block
from guestlives.plain import PlainRun
from guestlives.policy import Policy
from runs import any_guest

NO_CODE = 200


def filled(numbers, at=0, **named):
    """A machine with numbers from an address on and cells that are no instructions everywhere else."""
    guest = guest_with(numbers, at)
    used = [(at + place) % 64 for place in range(len(numbers))]
    frames = [[number if 16 * page + place in used else NO_CODE for place, number in enumerate(cells)]
              for page, cells in enumerate(guest.frames)]
    return Machine(Guest(frames, **named))


class TestBlockGraph(Checks):
    def test_no_entries(self):
        self.same_kind(block_graph(filled([]), 1, Policy.empty(), 8), {})
        machine = machine_of(("halt", ()), pages=((0, 6), (1, 6), (2, 0), (3, 4)))
        self.same_kind(block_graph(machine, 0, Policy.full(), 1), {})

    def test_blocks_without_linkable_exits(self):
        self.same_kind(block_graph(Machine(Guest.blank()), 1, Policy.empty(), 4), {at: (1, ()) for at in range(64)})
        for name in (12, 15, 16, 17, 18):
            self.assertEqual(block_graph(filled([name], 20), 1, Policy.empty(), 4), {20: (1, ())})

    def test_exits(self):
        # 0: jumpz 5; 2: jumpl 4; 4: jump 9. The operands 5, 4 and 9 are read as instructions, too.
        machine = filled([10, 5, 11, 4, 9, 9])
        found = block_graph(machine, 1, Policy.empty(), 8)
        self.same_kind(found[0], (1, (2, 5)))
        self.same_kind(found[2], (1, (4,)))
        self.same_kind(found[4], (1, (9,)))
        self.assertEqual(list(found), [0, 1, 2, 3, 4, 5])
        # 1: add r3 r0; 4: jump 9. 3: move r1 r1; at 6 is no instruction, but an operand: 5: jump 8.
        self.assertEqual((found[1], found[3], found[5]), ((2, (9,)), (1, (6,)), (1, (8,))))

    def test_an_exit_to_the_next_part_does_not_count(self):
        machine = filled([1, 7, 1, 8, 9, 0])
        self.assertEqual(block_graph(machine, 1, Policy.empty(), 8)[0], (3, (0,)))
        self.assertEqual(block_graph(machine, 1, Policy.empty(), 2)[0], (2, (4,)))
        self.assertEqual(block_graph(machine, 1, Policy.empty(), 1)[0], (1, (2,)))
        self.assertEqual(block_graph(machine, 1, Policy(["single"]), 8)[0], (1, (2,)))

    def test_rules(self):
        # 13: store 2 r0; 16: print 1; 18: jump 13
        machine = filled([8, 2, 0, 1, 1, 9, 13], 13)
        self.assertEqual(block_graph(machine, 1, Policy.empty(), 8)[13], (3, (13,)))
        self.assertEqual(block_graph(machine, 1, Policy(["stop_store"]), 8)[13], (1, (16,)))
        self.assertEqual(block_graph(machine, 1, Policy(["stop_page"]), 8)[13], (1, (16,)))
        # The print has its second cell in the next page.
        machine = filled([1, 5, 9, 15], 15)
        self.assertEqual(block_graph(machine, 1, Policy.empty(), 8)[15], (2, (15,)))
        self.assertNotIn(15, block_graph(machine, 1, Policy(["stop_page"]), 8))

    def test_a_block_that_begins_at_the_last_address(self):
        self.assertEqual(block_graph(filled([1, 5], 63), 1, Policy.empty(), 1)[63], (1, (1,)))

    def test_the_machine_as_it_is_now(self):
        run = PlainRun(guest_of(("set", (0, 1)), ("store", (8, 0)), ("jump", (6,)), ("jump", (3,))))
        before = block_graph(run.machine, 1, Policy.empty(), 1)
        self.assertEqual(before[8], (1, (3,)))
        run.run(["g0", "g0"])
        key = run.machine.key()
        self.assertEqual(block_graph(run.machine, 1, Policy.empty(), 1)[8], (1, (10,)))
        self.assertEqual(run.machine.key(), key)
        run.machine.pages[0] = (2, 6)
        self.assertEqual(list(block_graph(run.machine, 1, Policy.empty(), 1)), list(range(16, 64)))

    def test_by_the_blocks(self):
        random = Random(17)
        for words in ("", "single", "stop_page stop_store", "eager stop_page"):
            machine = Machine(any_guest(random, False, False))
            policy = Policy(words.split())
            for level, longest in ((0, 1), (1, 3), (0, 8)):
                found = block_graph(machine, level, policy, longest)
                self.assertEqual(list(found), sorted(found))
                for entry in range(64):
                    block = make_block(machine, entry, level, policy, longest)
                    self.assertEqual(block is None, entry not in found)
                    if block is not None:
                        targets = {block.exit_address(way) for way in block.exits()}
                        self.same_kind(found[entry], (len(block.parts), tuple(sorted(targets))))

    def test_wrong_longest(self):
        for longest in (-1, 0, 9):
            for machine in (filled([]), Machine(Guest.blank())):
                self.refuses(SettingError, {"name": "longest"}, block_graph, machine, 1, Policy.empty(), longest)


if __name__ == "__main__":
    unittest.main()
