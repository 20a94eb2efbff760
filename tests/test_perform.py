"""Points 66 (has_part and deferred_at), 72 (perform) and 73."""

import unittest

from checks import Checks, guest_of
from guestlives.execute import deed, trap
from guestlives.guest import build_guest
from guestlives.machine import Machine
from guestlives.making import build_block, make_block
from guestlives.ops import OPS
from guestlives.parts import Block, Part
from guestlives.perform import deferred_at, drain, has_part, newest, perform
from guestlives.policy import RULES, Policy

NOTHING = Policy.empty()
LETTERS = {"r": 1, "n": 200, "a": 33, "g": 2, "f": 3, "k": 5}


def machine_for(*instructions, regs=(10, 20, 30, 40), **named):
    machine = Machine(guest_of(*instructions, handlers=(50, 51), **named))
    for processor in machine.processors:
        processor.regs = list(regs)
        processor.zero, processor.less = 1, 1
    return machine


class TestSeats(Checks):
    def test_has_part(self):
        block = Block(0, 1, [Part(0, "halt", (), 1, ()), Part(1, "halt", (), 1, ())])
        for index, wanted in ((0, True), (1, True), (2, False), (9, False)):
            self.assertIs(has_part(block, index), wanted)
            self.assertIs(has_part(None, index), False)
        self.assertIs(has_part(Block(0, 1, []), 0), False)

    def test_deferred_at(self):
        table = {0: ("set", 5), 4: ("flags", 0, 1)}
        block = Block(0, 1, [Part(0, "halt", (), 1, ()), Part(1, "halt", (), 1, (), start_map=table)])
        self.same_kind([deferred_at(block, index) for index in (0, 1, 2)], [{}, table, {}])
        self.same_kind(deferred_at(None, 0), {})
        deferred_at(block, 1)[1] = "x"
        self.assertEqual(deferred_at(block, 1), table)


class TestBuffers(Checks):
    def test_newest(self):
        buffer = [(0, 1, 5, 0), (1, 1, 6, 1), (0, 1, 7, 3), (0, 2, 8, 0), (2, 3, 0, 1)]
        before = list(buffer)
        for place, wanted in (((0, 1), 7), ((1, 1), 6), ((0, 2), 8), ((2, 3), 0), ((2, 1), None), ((1, 2), None)):
            self.same_kind(newest(buffer, *place), wanted)
        self.assertIsNone(newest([], 0, 0))
        self.assertEqual(buffer, before)

    def test_drain(self):
        machine = machine_for()
        wanted = machine.copy()
        wanted.frames[0][1], wanted.frames[1][15], wanted.frames[3][0] = 7, 6, 8
        buffer = [(0, 1, 5, 2), (1, 15, 6, 1), (0, 1, 7, 3), (3, 0, 8, 0)]
        self.same_kind(drain(machine, buffer), [("store", 2, 0, 1), ("store", 1, 1, 15), ("store", 3, 0, 1),
                                                ("store", 0, 3, 0)])
        self.assertEqual((machine.key(), buffer), (wanted.key(), []))
        self.same_kind(drain(machine, buffer), [])
        self.assertEqual(machine.key(), wanted.key())


class TestPerform(Checks):
    def performed(self, machine, part, p=0, level=1, rules=(), buffer=None):
        block = Block(part.address, level, [Part(60, "halt", (), 1, ()), part])
        before = block.key()
        result = perform(machine, p, block, 1, Policy(rules), [] if buffer is None else buffer)
        self.assertEqual(block.key(), before)
        return result

    def test_deeds(self):
        for p in (0, 1):
            for name, kinds in OPS:
                if name in ("call", "store"):
                    continue
                operands = tuple(LETTERS[kind] for kind in kinds)
                machine, other = machine_for(), machine_for()
                result = self.performed(machine, Part(9, name, operands, 1 + len(operands), ()), p)
                self.same_kind(result, deed(other, p, name, operands, 9))
                self.assertEqual(machine.key(), other.key())

    def test_taken(self):
        machine = machine_for()
        self.assertEqual(self.performed(machine, Part(9, "jumpz", (5,), 2, ()))[2], 1)
        machine.processors[0].zero = 0
        self.assertEqual(self.performed(machine, Part(9, "jumpz", (5,), 2, ()))[2], 0)
        self.assertEqual(machine.processors[0].pc, 11)

    def test_the_part_that_is_done(self):
        block = make_block(machine_for(("print", (1,)), ("print", (2,)), ("print", (3,))), 0, 1, NOTHING, 8)
        for index in (0, 1, 2):
            machine = machine_for()
            self.assertEqual(perform(machine, 0, block, index, NOTHING, []), ([("print", 0, index + 1)], [], 0))
            self.assertEqual(machine.processors[0].pc, 2 * index + 2)

    def test_it_is_not_read_again(self):
        machine = machine_for(("print", (1,)))
        block = make_block(machine, 0, 1, NOTHING, 8)
        machine.frames[0][1] = 9
        machine.pages[0] = (3, 0)
        self.assertEqual(perform(machine, 0, block, 0, NOTHING, [])[0], [("print", 0, 1)])

    def test_before_and_after(self):
        part = Part(9, "show", (1,), 2, (), before=((1, ("move", 0)), (2, ("move", 1))), after=((1, ("set", 7)),))
        machine = machine_for()
        self.assertEqual(self.performed(machine, part), ([("print", 0, 10)], [], 0))
        self.assertEqual(machine.processors[0].regs, [10, 7, 10, 40])
        self.assertEqual(machine.processors[1].regs, [10, 20, 30, 40])

    def test_after_the_deed(self):
        part = Part(9, "set", (1, 5), 3, (), after=((0, ("move", 1)), (4, ("compare", 0, 1))))
        machine = machine_for()
        self.performed(machine, part)
        self.assertEqual((machine.processors[0].regs, machine.processors[0].less), ([5, 5, 30, 40], 0))

    def test_what_is_not_done(self):
        for name, operands in (("set", (1, 5)), ("move", (1, 0)), ("add", (1, 0)), ("compare", (1, 0))):
            machine = machine_for()
            before = machine.key()
            part = Part(62, name, operands, 3, (), done=False, start_map={1: ("set", 9)}, deed_map={1: ("set", 9)})
            self.same_kind(self.performed(machine, part), ([], [], 0))
            self.assertEqual(machine.processors[0].pc, 1)
            machine.processors[0].pc = 0
            self.assertEqual(machine.key(), before)
        part = Part(62, "set", (1, 5), 3, (), before=((0, ("set", 1)),), done=False, after=((1, ("move", 0)),))
        self.assertEqual(self.performed(machine, part), ([], [], 0))
        self.assertEqual(machine.processors[0].regs, [1, 1, 30, 40])

    def test_traps(self):
        pages = ((0, 7), (1, 3), (2, 5), (3, 7))
        for name, operands, level, kind in (
            ("call", (), 1, "call"), ("call", (), 0, "call"), ("load", (1, 16), 1, "read"), ("store", (32, 1), 1, "write"),
            ("map", (0, 1), 0, "level"), ("resume", (), 0, "level"),
        ):
            for rules in (RULES, Policy(RULES) - Policy(["map_fault"])):
                machine, other = machine_for(pages=pages), machine_for(pages=pages)
                part = Part(9, name, operands, 1 + len(operands), (), before=((1, ("move", 0)),),
                            after=((2, ("set", 9)),), start_map={1: ("move", 0), 3: ("set", 5)},
                            deed_map={3: ("set", 5), 4: ("flags", 0, 0)})
                other.processors[0].regs[1] = 10
                if "map_fault" in rules:
                    other.processors[0].regs[3] = 5
                    other.processors[0].zero, other.processors[0].less = 0, 0
                event = trap(other, 0, kind, 9)
                buffer = [(0, 0, 5, 0)]
                self.same_kind(self.performed(machine, part, level=level, rules=rules, buffer=buffer),
                               ([event], [], None))
                self.assertEqual((machine.key(), buffer), (other.key(), [(0, 0, 5, 0)]))

    def test_the_level_of_the_block_decides(self):
        for level in (0, 1):
            machine = machine_for()
            machine.processors[0].level = 1 - level
            events, changes, taken = self.performed(machine, Part(9, "map", (0, 1), 3, ()), level=level)
            self.assertEqual((len(events), changes, taken), (1, [], None) if level == 0 else (0, [("map", 0)], 0))

    def test_a_trap_comes_also_where_the_deed_is_not_done(self):
        machine = machine_for()
        part = Part(9, "call", (), 1, (), done=False)
        self.assertEqual(self.performed(machine, part)[0], [("trap", 0, "call", 9, (10, 20, 30, 40), (1, 1))])


class TestStoresAndLoads(Checks):
    PAGES = ((0, 7), (1, 7), (1, 7), (3, 7))

    def perform(self, machine, name, operands, buffer, rules=(), address=61, p=0):
        block = Block(address, 1, [Part(address, name, operands, 3, ())])
        return perform(machine, p, block, 0, Policy(rules), buffer)

    def test_a_buffered_store(self):
        for rules in ((), Policy(RULES) - Policy(["prompt_store"])):
            machine = machine_for(pages=self.PAGES)
            before = machine.key()
            buffer = [(0, 0, 1, 0)]
            self.same_kind(self.perform(machine, "store", (37, 2), buffer, rules), ([], [], 0))
            self.same_kind(buffer, [(0, 0, 1, 0), (1, 5, 30, 2)])
            self.assertEqual(machine.processors[0].pc, 0)
            self.assertEqual(machine.key(), before)

    def test_a_prompt_store(self):
        machine, other = machine_for(pages=self.PAGES), machine_for(pages=self.PAGES)
        buffer = []
        self.same_kind(self.perform(machine, "store", (37, 2), buffer, ["prompt_store"]), ([], [("store", 2, 1, 5)], 0))
        deed(other, 0, "store", (37, 2), 61)
        self.assertEqual((machine.key(), buffer), (other.key(), []))
        self.assertEqual(machine.frames[1][5], 30)

    def test_loads(self):
        for rules in ((), ["prompt_store"], RULES):
            for buffer, wanted in (
                ([], 77), ([(1, 5, 3, 1)], 3), ([(1, 5, 3, 1), (1, 5, 0, 2)], 0), ([(0, 5, 3, 0), (1, 4, 3, 2)], 77),
            ):
                machine = machine_for(pages=self.PAGES)
                machine.frames[1][5] = 77
                before = list(buffer)
                self.same_kind(self.perform(machine, "load", (2, 37), buffer, rules), ([], [], 0))
                self.assertEqual(machine.processors[0].regs, [10, 20, wanted, 40])
                self.assertEqual((machine.processors[0].pc, machine.frames[1][5], buffer), (0, 77, before))

    def test_small_steps_around_them(self):
        parts = [Part(0, "set", (1, 9), 3, ()), Part(3, "store", (33, 1), 3, ()), Part(6, "load", (2, 33), 3, ())]
        block = build_block(0, 1, parts, Policy(["flush_exit"]))
        machine, buffer = machine_for(), []
        for index in (0, 1, 2):
            perform(machine, 0, block, index, Policy(["flush_exit"]), buffer)
        self.assertEqual((machine.processors[0].regs, buffer), ([10, 9, 9, 40], [(2, 1, 9, 2)]))

    def test_the_other_processor(self):
        machine = Machine(build_guest([], starts=(0, 5)))
        machine.processors[1].regs[3] = 6
        buffer = []
        self.perform(machine, "store", (1, 3), buffer, p=1)
        self.assertEqual((buffer, machine.processors[1].pc, machine.processors[0].pc), ([(0, 1, 6, 0)], 0, 0))


if __name__ == "__main__":
    unittest.main()
