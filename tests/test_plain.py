"""Points 8, 9, 39 and 40."""

import unittest

from checks import Checks, guest_of
from guestlives.errors import ActionError
from guestlives.execute import inspect_event, take
from guestlives.guest import Guest, build_guest
from guestlives.machine import Machine
from guestlives.plain import PlainRun, plain_events
from guestlives.trial import ACTIONS

WRONG_ACTIONS = ("", "x", "g2", "d0", "g0 ", "g0*2", "none")


def two_guest():
    """Processor 0 counts, processor 1 prints, and the device writes into its print."""
    programs = [(0, [("set", (1, 1)), ("add", (0, 1)), ("show", (0,)), ("halt", ())]),
                (32, [("print", (5,)), ("enable", ()), ("jump", (32,))])]
    return build_guest(programs, starts=(0, 32), handlers=(50, 51), writes=((2, 1, 6), (2, 1, 7)))


class TestDo(Checks):
    def test_a_new_run(self):
        guest = two_guest()
        run = PlainRun(guest)
        self.assertEqual(run.machine.key(), Machine(guest).key())
        self.same_kind((run.events, run.schedule), ([], []))

    def test_go_and_device(self):
        run = PlainRun(two_guest())
        told = [run.do(action) for action in ("g0", "g1", "d", "g0", "g1", "g1", "g0", "g1", "g0", "g0", "d", "d")]
        self.same_kind(told, [[], [("print", 1, 5)], [("device", 2, 1, 6)], [], [], [], [("print", 0, 1)],
                              [("print", 1, 6)], [("halt", 0)], [], [("device", 2, 1, 7)], []])
        self.same_kind(run.events, [event for events in told for event in events])
        self.assertEqual(run.schedule, ["g0", "g1", "d", "g0", "g1", "g1", "g0", "g1", "g0", "g0", "d", "d"])

    def test_raise_and_take(self):
        for p in (0, 1):
            run = PlainRun(two_guest())
            self.assertEqual(run.do(f"t{p}"), [])
            self.same_kind(run.do(f"r{p}"), [])
            self.assertIs(run.machine.processors[p].pending, True)
            self.assertIs(run.machine.processors[1 - p].pending, False)
            self.assertEqual(run.do(f"t{p}"), [])
            run.machine.processors[p].enabled = True
            other = run.machine.copy()
            self.same_kind(run.do(f"t{p}"), take(other, p))
            self.assertEqual(run.events, [("trap", p, "interrupt", (0, 32)[p], (0, 0, 0, 0), (0, 0))])
            self.assertEqual(run.machine.key(), other.key())
            self.assertEqual(run.machine.processors[p].pc, (50, 51)[p])

    def test_to_go_takes_no_interrupt(self):
        run = PlainRun(guest_of(("enable", ()), ("print", (1,))))
        self.assertEqual(run.run(["r0", "g0", "g0"]), [("print", 0, 1)])

    def test_inspect_and_prepare(self):
        run = PlainRun(two_guest())
        before = run.machine.key()
        self.same_kind(run.do("i0"), [("inspect", 0, 0, (0, 0, 0, 0), (0, 0), 1)])
        self.same_kind(run.do("i1"), [("inspect", 1, 32, (0, 0, 0, 0), (0, 0), 1)])
        self.same_kind(run.do("p0"), [])
        self.same_kind(run.do("p1"), [])
        self.assertEqual(run.machine.key(), before)
        self.assertEqual(run.schedule, ["i0", "i1", "p0", "p1"])
        self.assertEqual(len(run.events), 2)

    def test_a_halted_processor(self):
        for p in (0, 1):
            run = PlainRun(guest_of(("halt", ()), starts=(None, None)))
            start = run.machine.key()
            for action in (f"g{p}", f"t{p}", f"p{p}", "d"):
                self.assertEqual(run.do(action), [])
                self.assertEqual(run.machine.key(), start)
            self.assertEqual(run.do(f"r{p}"), [])
            self.assertIs(run.machine.processors[p].pending, True)
            run.machine.processors[p].enabled = True
            before = run.machine.key()
            for action in (f"g{p}", f"t{p}", f"p{p}", "d"):
                self.assertEqual(run.do(action), [])
            self.assertEqual(run.do(f"i{p}"), [inspect_event(run.machine, p)])
            self.assertEqual(run.machine.key(), before)

    def test_wrong_actions(self):
        for action in WRONG_ACTIONS:
            run = PlainRun(two_guest())
            run.do("g0")
            before = run.machine.key()
            self.refuses(ActionError, {"action": action}, run.do, action)
            self.assertEqual((run.machine.key(), run.events, run.schedule), (before, [], ["g0"]))

    def test_lists_are_new(self):
        run = PlainRun(guest_of(("print", (1,))))
        run.do("g0").append("x")
        run.run(["i0"]).clear()
        self.assertEqual([event[0] for event in run.events], ["print", "inspect"])


class TestRun(Checks):
    def test_run(self):
        guest = two_guest()
        schedule = ["g1", "d", "g1", "g1", "i1", "g1"]
        run = PlainRun(guest)
        wanted = [("print", 1, 5), ("device", 2, 1, 6), ("inspect", 1, 32, (0, 0, 0, 0), (0, 0), 1), ("print", 1, 6)]
        self.same_kind(run.run(schedule), wanted)
        self.assertEqual((run.events, run.schedule), (wanted, schedule))
        self.assertEqual(run.run(("d",)), [("device", 2, 1, 7)])
        self.assertEqual(run.events, wanted + [("device", 2, 1, 7)])
        self.assertEqual(run.run([]), [])
        self.assertEqual(run.schedule, ["g1", "d", "g1", "g1", "i1", "g1", "d"])
        self.same_kind(plain_events(guest, schedule), wanted)

    def test_its_own_schedule_again(self):
        run = PlainRun.replay(guest_of(("print", (1,)), ("print", (2,))), ["g0"])
        self.assertEqual(run.run(run.schedule), [("print", 0, 2)])
        self.assertEqual(run.schedule, ["g0", "g0"])

    def test_all_are_checked_before_the_first_is_done(self):
        run = PlainRun(two_guest())
        before = run.machine.key()
        self.refuses(ActionError, {"action": "x"}, run.run, ["g0", "d", "x", "y"])
        self.assertEqual((run.machine.key(), run.events, run.schedule), (before, [], []))

    def test_replay(self):
        run = PlainRun.replay(two_guest(), ["g1", "d"])
        self.assertIsInstance(run, PlainRun)
        self.assertEqual(run.events, [("print", 1, 5), ("device", 2, 1, 6)])
        self.assertEqual(run.schedule, ["g1", "d"])
        self.assertEqual(run.machine.written, 1)
        self.refuses(ActionError, {"action": "x"}, PlainRun.replay, two_guest(), ["g1", "x", "y"])
        self.refuses(ActionError, {"action": "x"}, plain_events, two_guest(), ["g1", "x", "y"])

    def test_replay_of_a_subclass(self):
        class Other(PlainRun):
            pass
        self.assertIs(type(Other.replay(Guest.blank(), [])), Other)

    def test_every_action_is_allowed(self):
        self.assertEqual(len(PlainRun.replay(two_guest(), ACTIONS).schedule), 11)

    def test_finished(self):
        write = ((0, 0, 0),)
        for starts, writes, wanted in (
            ((None, None), (), True), ((0, None), (), False), ((None, 0), (), False), ((None, None), write, False),
        ):
            self.assertIs(PlainRun(guest_of(("halt", ()), starts=starts, writes=writes)).finished, wanted)
        run = PlainRun(guest_of(("halt", ()), starts=(0, 0), writes=write))
        told = []
        for action in ("g0", "d", "g1"):
            run.do(action)
            told.append(run.finished)
        self.same_kind(told, [False, False, True])
        self.assertIsInstance(PlainRun.finished, property)

    def test_the_guest_is_not_changed(self):
        guest = two_guest()
        before = guest.key()
        plain_events(guest, ["d", "g0", "g1"])
        self.assertEqual(guest.key(), before)


if __name__ == "__main__":
    unittest.main()
