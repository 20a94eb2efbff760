"""Points 41 and 42."""

import unittest
from itertools import product

from checks import Checks, guest_of
from guestlives.errors import SettingError
from guestlives.explore import MOST_LENGTH, all_outputs, can_output
from guestlives.guest import Guest, build_guest
from guestlives.plain import PlainRun, plain_events


def race_guest():
    """Both processors and the device use the cell of one print."""
    programs = [(0, [("print", (1,)), ("halt", ())]), (16, [("set", (0, 2)), ("store", (1, 0)), ("halt", ())])]
    return build_guest(programs, starts=(0, 16), writes=((0, 1, 3),))


def patient_guest():
    return build_guest([(0, [("enable", ()), ("jump", (1,))]), (60, [("print", (4,)), ("halt", ())])])


class TestCanOutput(Checks):
    def test_a_sequence(self):
        guest = guest_of(("print", (1,)), ("print", (2,)), ("halt", ()))
        for events, wanted in (
            ([], True), ([("print", 0, 1)], True), ([("print", 0, 1), ("print", 0, 2)], True),
            ([("print", 0, 1), ("print", 0, 2), ("halt", 0)], True), ([("print", 0, 2)], False), ([("halt", 0)], False),
            ([("print", 0, 1), ("halt", 0)], False), ([("print", 1, 1)], False),
            ([("print", 0, 1), ("print", 0, 2), ("halt", 0), ("halt", 0)], False),
        ):
            self.assertIs(can_output(guest, events), wanted)
            self.assertIs(can_output(guest, events, interrupts=True), wanted)

    def test_against_all_schedules(self):
        guest = race_guest()
        shown = {tuple(plain_events(guest, schedule)) for schedule in product(("g0", "g1", "d"), repeat=6)}
        events = (("print", 0, 1), ("print", 0, 2), ("print", 0, 3), ("halt", 0), ("halt", 1), ("device", 0, 1, 3))
        longest = max(len(row) for row in shown)
        self.assertEqual(longest, 4)
        firsts = {row[:count] for row in shown for count in range(len(row) + 1)}
        for count in range(5):
            for row in product(events, repeat=count):
                self.assertIs(can_output(guest, list(row)), row in firsts, row)

    def test_inspects(self):
        guest = guest_of(("set", (0, 5)), ("halt", ()))
        first = ("inspect", 0, 0, (0, 0, 0, 0), (0, 0), 1)
        second = ("inspect", 0, 3, (5, 0, 0, 0), (0, 0), 1)
        other = ("inspect", 1, 0, (0, 0, 0, 0), (0, 0), 1)
        self.assertIs(can_output(guest, [first, first, other, second, other]), True)
        self.assertIs(can_output(guest, [second, first]), False)
        self.assertIs(can_output(guest, [("inspect", 0, 3, (0, 0, 0, 0), (0, 0), 1)]), False)

    def test_the_device(self):
        guest = guest_of(("halt", ()), writes=((1, 1, 1), (1, 1, 2)))
        one, two = ("device", 1, 1, 1), ("device", 1, 1, 2)
        self.assertIs(can_output(guest, [one, ("halt", 0), two]), True)
        self.assertIs(can_output(guest, [two]), False)
        self.assertIs(can_output(guest, [one, one]), False)

    def test_interrupts(self):
        guest = patient_guest()
        events = [("trap", 0, "interrupt", 1, (0, 0, 0, 0), (0, 0)), ("print", 0, 4), ("halt", 0)]
        self.assertIs(can_output(guest, events), False)
        self.assertIs(can_output(guest, events, interrupts=False), False)
        self.assertIs(can_output(guest, events, interrupts=True), True)
        self.assertIs(can_output(guest, events[1:], interrupts=True), False)
        self.assertIs(can_output(guest, events[:1] + events[:1], interrupts=True), False)

    def test_interrupts_of_the_other_processor(self):
        guest = guest_of(("enable", ()), ("jump", (1,)), starts=(None, 0))
        event = ("trap", 1, "interrupt", 1, (0, 0, 0, 0), (0, 0))
        self.assertIs(can_output(guest, [event], interrupts=True), True)
        self.assertIs(can_output(guest, [event]), False)

    def test_the_list_of_a_run(self):
        guest = race_guest()
        for schedule in product(("g0", "g1", "d"), repeat=5):
            self.assertIs(can_output(guest, PlainRun.replay(guest, schedule).events), True)

    def test_a_loop_without_events_comes_to_an_end(self):
        guest = guest_of(("jump", (0,)), starts=(0, 0))
        self.assertIs(can_output(guest, [("halt", 0)], interrupts=True), False)
        self.assertIs(can_output(guest, []), True)

    def test_arguments_stay(self):
        guest = race_guest()
        before = guest.key()
        events = [("print", 0, 3)]
        can_output(guest, events)
        self.assertEqual((guest.key(), events), (before, [("print", 0, 3)]))
        with self.assertRaises(TypeError):
            can_output(guest, events, True)


def outputs_by_schedules(guest, length):
    """What point 42 asks for, by trying every list of actions."""
    found = set()
    for count in range(length + 1):
        for schedule in product(("g0", "g1", "d"), repeat=count):
            run = PlainRun(guest)
            allowed = True
            for action in schedule:
                allowed = allowed and action in possible(run)
                run.do(action)
            if allowed and (count == length or not possible(run)):
                found.add(tuple(run.events))
    return sorted(found)


def possible(run):
    actions = [f"g{p}" for p in (0, 1) if not run.machine.processors[p].halted]
    return actions + ["d"] * (run.machine.written < len(run.machine.guest.writes))


class TestAllOutputs(Checks):
    def test_most_length(self):
        self.assertEqual(MOST_LENGTH, 6)
        for length in (-1, 7, 100):
            self.refuses(SettingError, {"name": "length"}, all_outputs, Guest.blank(), length)

    def test_one_processor(self):
        guest = guest_of(("print", (1,)), ("set", (0, 0)), ("halt", ()))
        one, two = ("print", 0, 1), ("halt", 0)
        for length, wanted in enumerate(([()], [(one,)], [(one,)], [(one, two)], [(one, two)], [(one, two)])):
            self.same_kind(all_outputs(guest, length), wanted)

    def test_nothing_is_possible(self):
        for length in range(7):
            self.same_kind(all_outputs(guest_of(starts=(None, None)), length), [()])

    def test_against_all_schedules(self):
        for guest in (race_guest(), patient_guest(), guest_of(("call", ()), starts=(None, 0), writes=((3, 12, 19),))):
            for length in range(7):
                self.same_kind(all_outputs(guest, length), outputs_by_schedules(guest, length))

    def test_in_order_without_duplicates(self):
        outputs = all_outputs(race_guest(), 6)
        self.assertEqual(outputs, sorted(set(outputs)))
        self.assertIn((("print", 0, 1), ("halt", 0), ("device", 0, 1, 3), ("halt", 1)), outputs)
        self.assertEqual(len({row[0] for row in all_outputs(race_guest(), 1) if row}), 2)

    def test_a_new_list(self):
        guest = race_guest()
        before = guest.key()
        all_outputs(guest, 2).clear()
        self.assertTrue(all_outputs(guest, 2))
        self.assertEqual(guest.key(), before)


if __name__ == "__main__":
    unittest.main()
