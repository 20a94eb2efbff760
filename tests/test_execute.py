"""Points 8 and 34 to 38."""

import unittest

from checks import Checks, guest_of, guest_with, machine_of
from guestlives.execute import (
    can_take, deed, device_write, inspect_event, step, take, trap, trap_kind,
)
from guestlives.guest import Guest
from guestlives.machine import Machine
from guestlives.ops import OPS, encode, operand_kinds
from guestlives.plaintext import TRAP_KINDS

SUPERVISOR = ("map", "right", "enable", "disable", "resume")
NO_TRAPS = {
    "halt": (), "print": (7,), "show": (1,), "set": (1, 7), "move": (1, 2), "add": (1, 2), "compare": (1, 2),
    "load": (1, 20), "store": (20, 1), "jump": (9,), "jumpz": (9,), "jumpl": (9,), "map": (1, 2), "right": (1, 2),
    "enable": (), "disable": (), "resume": (), "lower": (),
}


def busy_machine(**named):
    """A machine in which nothing has its value of the start."""
    frames = [[16 * frame + offset for offset in range(16)] for frame in range(4)]
    machine = Machine(Guest(frames, starts=(3, 5), handlers=(40, 50), writes=((1, 2, 3), (3, 15, 0)), **named))
    for p, processor in enumerate(machine.processors):
        processor.regs = [10 + p, 200, 100, 30]
        processor.zero, processor.less, processor.level = 1 - p, p, 1
        processor.enabled, processor.pending, processor.saved = True, True, (17, 0, True)
    return machine


def changed_parts(before, after):
    """The names of what differs between two machines."""
    names = [name for name in ("frames", "pages", "written") if getattr(before, name) != getattr(after, name)]
    for p in (0, 1):
        one, two = vars(before.processors[p]), vars(after.processors[p])
        names.extend(f"{name} {p}" for name in one if one[name] != two[name])
    return names


class Machines(Checks):
    def changes(self, machine, names, call, *args):
        """The call changes the named parts of the machine and no other; returns its result."""
        before = machine.copy()
        result = call(machine, *args)
        self.assertEqual(sorted(changed_parts(before, machine)), sorted(names))
        self.assertEqual(machine.guest.key(), before.guest.key())
        return result


class TestTrapKind(Machines):
    def kind(self, machine, name, operands, level, p=0):
        return self.changes(machine, [], trap_kind, p, name, operands, level)

    def test_no_trap(self):
        for p in (0, 1):
            for name, operands in NO_TRAPS.items():
                self.assertIsNone(self.kind(busy_machine(), name, operands, 1, p))
                wanted = "level" if name in SUPERVISOR else None
                self.assertEqual(self.kind(busy_machine(), name, operands, 0, p), wanted)
        self.assertEqual(set(NO_TRAPS) | {"call"}, {name for name, _ in OPS})

    def test_call(self):
        for level in (0, 1):
            self.assertEqual(self.kind(busy_machine(), "call", (), level), "call")

    def test_rights(self):
        for number in range(8):
            machine = busy_machine()
            machine.pages[1] = (3, number)
            for level in (0, 1):
                read = None if number in (4, 5, 6, 7) else "read"
                write = None if number in (2, 3, 6, 7) else "write"
                for address in (16, 31):
                    self.assertEqual(self.kind(machine, "load", (2, address), level), read)
                    self.assertEqual(self.kind(machine, "store", (address, 2), level), write)
                for address in (15, 32):
                    self.assertIsNone(self.kind(machine, "load", (2, address), level))
                    self.assertIsNone(self.kind(machine, "store", (address, 2), level))
                self.assertIsNone(self.kind(machine, "jump", (16,), level))

    def test_the_level_that_is_given_counts(self):
        machine = busy_machine()
        machine.processors[0].level = 0
        self.assertIsNone(self.kind(machine, "enable", (), 1))
        self.assertEqual(self.kind(machine, "enable", (), 0), "level")


class TestTrap(Machines):
    def test_each_kind(self):
        for p in (0, 1):
            for kind in TRAP_KINDS:
                for level, enabled in ((0, True), (0, False), (1, True), (1, False)):
                    machine = busy_machine()
                    processor = machine.processors[p]
                    processor.level, processor.enabled = level, enabled
                    event = trap(machine, p, kind, 33)
                    self.same_kind(event, ("trap", p, kind, 33, (10 + p, 200, 100, 30), (1 - p, p)))
                    back = 34 if kind == "call" else 33
                    self.same_kind(processor.saved, (back, level, enabled))
                    self.same_kind((processor.pc, processor.level, processor.enabled), ((40, 50)[p], 1, False))

    def test_nothing_else_changes(self):
        for p in (0, 1):
            machine = busy_machine()
            machine.processors[p].level = 0
            names = [f"{name} {p}" for name in ("saved", "pc", "level", "enabled")]
            self.changes(machine, names, trap, p, "read", 33)

    def test_behind_63_is_0(self):
        machine = busy_machine()
        self.assertEqual(trap(machine, 0, "call", 63)[3], 63)
        self.assertEqual(machine.processors[0].saved[0], 0)
        trap(machine, 0, "level", 63)
        self.assertEqual(machine.processors[0].saved[0], 63)


class TestDeed(Machines):
    def does(self, name, operands, result, names, p=0, address=8, **states):
        machine = busy_machine()
        processor = machine.processors[p]
        for attribute, value in states.items():
            setattr(processor, attribute, value)
        told = self.changes(machine, [f"{attribute} {p}" for attribute in names if " " not in attribute] +
                            [attribute[1:] for attribute in names if " " in attribute], deed, p, name, operands, address)
        self.same_kind(told, result)
        return machine

    def test_halt_print_show(self):
        for p in (0, 1):
            machine = self.does("halt", (), ([("halt", p)], [], 0), ["pc", "halted"], p)
            self.same_kind((machine.processors[p].pc, machine.processors[p].halted), (9, True))
            machine = self.does("print", (7,), ([("print", p, 7)], [], 0), ["pc"], p)
            self.assertEqual(machine.processors[p].pc, 10)
            machine = self.does("show", (0,), ([("print", p, 10 + p)], [], 0), ["pc"], p)
            self.assertEqual(machine.processors[p].pc, 10)

    def test_registers(self):
        for p in (0, 1):
            for name, operands, regs in (
                ("set", (3, 255), [10 + p, 200, 100, 255]), ("move", (3, 1), [10 + p, 200, 100, 200]),
                ("add", (2, 3), [10 + p, 200, 130, 30]), ("add", (1, 2), [10 + p, 44, 100, 30]),
                ("add", (2, 2), [10 + p, 200, 200, 30]), ("add", (1, 1), [10 + p, 144, 100, 30]),
                ("load", (2, 63), [10 + p, 200, 63, 30]),
            ):
                machine = self.does(name, operands, ([], [], 0), ["pc", "regs"], p)
                self.assertEqual(machine.processors[p].regs, regs)
                self.assertEqual(machine.processors[p].pc, 11)
            self.does("move", (1, 1), ([], [], 0), ["pc"], p)

    def test_the_greatest_sums(self):
        for first, second, total in ((255, 1, 0), (255, 255, 254), (128, 127, 255), (0, 0, 0)):
            machine = busy_machine()
            machine.processors[0].regs = [first, second, 0, 0]
            deed(machine, 0, "add", (0, 1), 0)
            self.assertEqual(machine.processors[0].regs[0], total)

    def test_compare(self):
        for p in (0, 1):
            for operands, flags in (((1, 2), (0, 0)), ((2, 1), (0, 1)), ((2, 2), (1, 0)), ((0, 3), (0, 1))):
                machine = busy_machine()
                told = deed(machine, p, "compare", operands, 8)
                self.same_kind(told, ([], [], 0))
                processor = machine.processors[p]
                self.same_kind((processor.zero, processor.less), flags)
                self.assertEqual((processor.pc, processor.regs), (11, [10 + p, 200, 100, 30]))

    def test_store(self):
        for p in (0, 1):
            machine = self.does("store", (63, 1), ([], [("store", 3, 3, 15)], 0), ["pc", " frames"], p)
            self.assertEqual(machine.frames[3][15], 200)
            self.assertEqual(machine.processors[p].pc, 11)

    def test_store_and_load_through_a_page(self):
        machine = busy_machine()
        machine.pages[1] = (3, 0)
        self.same_kind(deed(machine, 0, "store", (18, 1), 0), ([], [("store", 1, 3, 2)], 0))
        self.assertEqual((machine.frames[3][2], machine.frames[1][2]), (200, 18))
        deed(machine, 0, "load", (0, 31), 0)
        self.assertEqual(machine.processors[0].regs[0], 63)

    def test_a_change_that_changes_nothing(self):
        self.does("store", (30, 3), ([], [("store", 1, 1, 14)], 0), ["pc"])
        self.does("map", (2, 2), ([], [("map", 2)], 0), ["pc"])
        self.does("right", (2, 7), ([], [("right", 2)], 0), ["pc"])

    def test_jumps(self):
        for p in (0, 1):
            machine = self.does("jump", (63,), ([], [], 1), ["pc"], p)
            self.assertEqual(machine.processors[p].pc, 63)
            for name, zero, less, taken in (
                ("jumpz", 1, 0, 1), ("jumpz", 0, 1, 0), ("jumpl", 0, 1, 1), ("jumpl", 1, 0, 0), ("jump", 0, 0, 1),
                ("jumpz", 0, 0, 0), ("jumpl", 0, 0, 0), ("jumpz", 1, 1, 1), ("jumpl", 1, 1, 1),
            ):
                machine = self.does(name, (2,), ([], [], taken), ["pc"], p, zero=zero, less=less)
                self.assertEqual(machine.processors[p].pc, 2 if taken else 10)

    def test_a_jump_to_the_address_behind_it(self):
        machine = busy_machine()
        machine.processors[0].zero = 0
        self.assertEqual(deed(machine, 0, "jumpz", (10,), 8), ([], [], 0))
        self.assertEqual(deed(machine, 0, "jump", (10,), 8), ([], [], 1))
        self.assertEqual(machine.processors[0].pc, 10)

    def test_pages(self):
        for p in (0, 1):
            machine = self.does("map", (2, 0), ([], [("map", 2)], 0), ["pc", " pages"], p)
            self.same_kind(machine.pages, [(0, 7), (1, 7), (0, 7), (3, 7)])
            machine = self.does("right", (3, 0), ([], [("right", 3)], 0), ["pc", " pages"], p)
            self.same_kind(machine.pages, [(0, 7), (1, 7), (2, 7), (3, 0)])
            self.assertEqual(machine.processors[p].pc, 11)

    def test_enable_disable_lower(self):
        for p in (0, 1):
            machine = self.does("enable", (), ([], [], 0), ["pc", "enabled"], p, enabled=False)
            self.assertIs(machine.processors[p].enabled, True)
            self.does("enable", (), ([], [], 0), ["pc"], p)
            machine = self.does("disable", (), ([], [], 0), ["pc", "enabled"], p)
            self.assertIs(machine.processors[p].enabled, False)
            machine = self.does("lower", (), ([], [], 0), ["pc", "level"], p)
            self.same_kind((machine.processors[p].level, machine.processors[p].pc), (0, 9))

    def test_resume(self):
        for p in (0, 1):
            machine = self.does("resume", (), ([], [], 0), ["pc", "level"], p)
            self.same_kind(machine.processors[p].key()[3:5], (0, True))
            self.assertEqual(machine.processors[p].pc, 17)
            self.does("resume", (), ([], [], 0), ["pc", "enabled"], p, saved=(63, 1, False))

    def test_behind_63_is_0(self):
        for name, operands in NO_TRAPS.items():
            if name not in ("jump", "jumpz", "jumpl", "resume"):
                machine = busy_machine()
                deed(machine, 0, name, operands, 63)
                self.assertEqual(machine.processors[0].pc, len(operands))
        machine = busy_machine()
        machine.processors[0].zero = 0
        deed(machine, 0, "jumpz", (9,), 62)
        self.assertEqual(machine.processors[0].pc, 0)

    def test_results_are_new(self):
        machine = busy_machine()
        events, changes, _ = deed(machine, 0, "set", (0, 0), 0)
        events.append(1)
        changes.append(1)
        self.assertEqual(deed(machine, 0, "set", (0, 0), 0), ([], [], 0))


class TestStep(Machines):
    def test_a_halted_processor(self):
        machine = machine_of(("print", (1,)), starts=(None, 0))
        self.same_kind(self.changes(machine, [], step, 0), ([], []))
        machine.processors[1].halted = True
        self.same_kind(self.changes(machine, [], step, 1), ([], []))

    def test_each_instruction(self):
        for p in (0, 1):
            for name, operands in NO_TRAPS.items():
                machine = busy_machine()
                address = machine.processors[p].pc
                for place, number in enumerate(encode(name, operands)):
                    machine.frames[0][address + place] = number
                other = machine.copy()
                events, changes, _ = deed(other, p, name, operands, address)
                self.same_kind(step(machine, p), (events, changes))
                self.assertEqual(machine.key(), other.key())

    def trapped(self, machine, kind, p=0):
        """The step is this trap at pc, and nothing else."""
        other = machine.copy()
        event = trap(other, p, kind, other.processors[p].pc)
        self.same_kind(step(machine, p), ([event], []))
        self.assertEqual(machine.key(), other.key())
        self.assertEqual(event[:4], ("trap", p, kind, event[3]))

    def test_traps_of_fetching(self):
        for p in (0, 1):
            starts = ((0, None), (None, 0))[p]
            pages = ((0, 6), (1, 7), (2, 7), (3, 7))
            self.trapped(machine_of(("halt", ()), starts=starts, pages=pages), "execute", p)
            self.trapped(Machine(guest_with([19], starts=starts)), "invalid", p)
        machine = Machine(guest_with([3, 1, 1], at=14, starts=(14, 0), pages=((0, 7), (1, 6), (2, 7), (3, 7))))
        self.trapped(machine, "execute")

    def test_traps_of_instructions(self):
        for p in (0, 1):
            starts = ((0, None), (None, 0))[p]
            for name in SUPERVISOR:
                machine = machine_of((name, (1,) * len(operand_kinds(name))), starts=starts)
                machine.processors[p].level = 0
                self.trapped(machine, "level", p)
            self.trapped(machine_of(("call", ()), starts=starts), "call", p)
            pages = ((0, 7), (1, 3), (2, 5), (3, 7))
            self.trapped(machine_of(("load", (0, 16)), starts=starts, pages=pages), "read", p)
            self.trapped(machine_of(("store", (32, 0)), starts=starts, pages=pages), "write", p)

    def test_each_instruction_with_each_trap_of_fetching(self):
        for name, kinds in OPS:
            numbers = encode(name, (0,) * len(kinds))
            machine = Machine(guest_with(numbers, pages=((0, 6), (1, 7), (2, 7), (3, 7))))
            machine.processors[0].level = 0
            self.trapped(machine, "execute")
            if kinds:
                pages = ((0, 7), (1, 6), (2, 7), (3, 7))
                self.trapped(Machine(guest_with(numbers, at=15, starts=(15, None), pages=pages)), "execute")

    def test_one_step_behind_a_trap(self):
        machine = machine_of(("call", ()), ("print", (1,)), handlers=(1, 1))
        step(machine, 0)
        self.assertEqual(step(machine, 0), ([("print", 0, 1)], []))
        self.assertEqual(machine.processors[0].saved, (1, 1, False))

    def test_the_level_of_the_processor(self):
        machine = machine_of(("lower", ()), ("disable", ()))
        self.assertEqual(step(machine, 0), ([], []))
        self.assertEqual(step(machine, 0)[0], [("trap", 0, "level", 1, (0, 0, 0, 0), (0, 0))])


class TestInterrupts(Machines):
    def test_can_take(self):
        for p in (0, 1):
            for halted in (True, False):
                for pending in (True, False):
                    for enabled in (True, False):
                        machine = busy_machine()
                        processor = machine.processors[p]
                        processor.halted, processor.pending, processor.enabled = halted, pending, enabled
                        machine.processors[1 - p].halted = True
                        result = self.changes(machine, [], can_take, p)
                        self.assertIs(result, pending and enabled and not halted)
                        if not result:
                            self.same_kind(self.changes(machine, [], take, p), [])

    def test_take(self):
        for p in (0, 1):
            for level in (0, 1):
                machine = busy_machine()
                machine.processors[p].level = level
                other = machine.copy()
                other.processors[p].pending = False
                event = trap(other, p, "interrupt", (3, 5)[p])
                self.same_kind(take(machine, p), [event])
                self.assertEqual(event, ("trap", p, "interrupt", (3, 5)[p], (10 + p, 200, 100, 30), (1 - p, p)))
                self.assertEqual(machine.key(), other.key())
                self.assertIs(machine.processors[p].pending, False)
                self.assertEqual(machine.processors[p].saved, ((3, 5)[p], level, True))
                self.assertEqual(take(machine, p), [])

    def test_no_interrupt_within_a_step(self):
        machine = busy_machine()
        machine.frames[0][3] = 16
        self.assertEqual(step(machine, 0), ([], []))
        self.assertIs(machine.processors[0].pending, True)


class TestDevice(Machines):
    def test_writes_in_order(self):
        machine = busy_machine()
        told = self.changes(machine, ["frames", "written"], device_write)
        self.same_kind(told, ([("device", 1, 2, 3)], [("device", 1, 2)]))
        self.assertEqual((machine.frames[1][2], machine.written), (3, 1))
        self.same_kind(device_write(machine), ([("device", 3, 15, 0)], [("device", 3, 15)]))
        self.assertEqual((machine.frames[3][15], machine.written), (0, 2))
        self.same_kind(self.changes(machine, [], device_write), ([], []))

    def test_frames_and_not_pages(self):
        machine = Machine(guest_of(pages=((2, 0), (0, 0), (1, 0), (1, 0)), starts=(None, None), writes=((0, 1, 9),)))
        device_write(machine)
        self.assertEqual([frame[1] for frame in machine.frames], [9, 0, 0, 0])

    def test_a_write_that_changes_nothing(self):
        machine = Machine(Guest.blank())
        self.same_kind(device_write(machine), ([], []))
        machine = Machine(guest_of(writes=((0, 1, 0),)))
        self.same_kind(self.changes(machine, ["written"], device_write), ([("device", 0, 1, 0)], [("device", 0, 1)]))


class TestInspect(Machines):
    def test_event(self):
        for p in (0, 1):
            for halted in (False, True):
                machine = busy_machine()
                machine.processors[p].level = p
                machine.processors[p].halted = halted
                event = self.changes(machine, [], inspect_event, p)
                self.same_kind(event, ("inspect", p, (3, 5)[p], (10 + p, 200, 100, 30), (1 - p, p), p))


if __name__ == "__main__":
    unittest.main()
