"""Points 128 to 132, and 138 as far as it speaks of taking back."""

import unittest
from random import Random

from checks import Checks, guest_of, guest_of_texts, host_state
from guestlives.against import agrees
from guestlives.debugger import Debugger
from guestlives.errors import ActionError, DebuggerError, SettingError
from guestlives.guest import Guest
from guestlives.host import Host
from guestlives.hothost import HotHost
from guestlives.house import house_guest
from guestlives.policy import RULES, Policy
from guestlives.stops import AddressStop, CellStop, EventStop, Stop
from runs import any_guest, any_schedule

SAFE = Policy(["single", "eager", "check_entry"])
WRONG_ACTIONS = ("t0", "t1", "x", "", "g2")


def state_of(debugger):
    """All that a debugger is, as one value to compare."""
    return (host_state(debugger.host), list(debugger.log), list(debugger.undone), debugger.position)


def debugger_of(name, number=2, policy=SAFE, **named):
    return Debugger(house_guest(name, number), policy, **named)


class Counting(Stop):
    """A stop that is met at its last call, and keeps what it was called with."""

    def __init__(self, calls):
        self.calls = calls
        self.seen = []

    def __call__(self, machine, events):
        self.seen.append((machine.key(), events))
        return len(self.seen) == self.calls


class TestSettings(Checks):
    def test_attributes(self):
        guest, policy = house_guest("sum", 1), Policy(["eager"])
        debugger = Debugger(guest, policy)
        self.assertIs(debugger.guest, guest)
        self.assertIs(debugger.policy, policy)
        self.same_kind((debugger.slots, debugger.longest, debugger.hot), (4, 4, None))
        self.same_kind((debugger.log, debugger.undone, debugger.position), ([], [], 0))
        self.assertIs(type(debugger.host), Host)
        self.assertEqual(host_state(debugger.host), host_state(Host(guest, policy)))

    def test_the_host(self):
        for slots, longest in ((0, 1), (8, 8), (3, 2)):
            host = Debugger(Guest.blank(), SAFE, slots=slots, longest=longest).host
            self.assertIs(type(host), Host)
            self.assertEqual((len(host.store.slots), host.longest), (slots, longest))
            debugger = Debugger(Guest.blank(), SAFE, slots=slots, longest=longest, hot=longest)
            self.assertIs(type(debugger.host), HotHost)
            self.same_kind((debugger.slots, debugger.longest, debugger.hot), (slots, longest, longest))
            host = debugger.host
            self.assertEqual((len(host.store.slots), host.longest, host.hot), (slots, longest, longest))

    def test_errors(self):
        for named, name in (({"slots": 9, "longest": 0, "hot": 0}, "slots"), ({"slots": -1}, "slots"),
                            ({"longest": 9, "hot": 0}, "longest"), ({"longest": 0}, "longest"),
                            ({"hot": 0}, "hot"), ({"hot": 9}, "hot"), ({"hot": -1}, "hot")):
            self.refuses(SettingError, {"name": name}, Debugger, Guest.blank(), SAFE, **named)
        with self.assertRaises(TypeError):
            Debugger(Guest.blank(), SAFE, 4)


class TestDo(Checks):
    def test_the_log(self):
        debugger = Debugger(guest_of(("print", (5,)), ("halt", ())), SAFE)
        self.same_kind(debugger.do("g0"), [("print", 0, 5)])
        self.same_kind(debugger.do("r1"), [])
        self.same_kind(debugger.run(["i1", "g0"]), [("inspect", 1, 0, (0, 0, 0, 0), (0, 0), 1), ("halt", 0)])
        self.same_kind(debugger.run(("g0",)), [])
        self.same_kind(debugger.run([]), [])
        self.same_kind(debugger.log, [
            ("g0", (("print", 0, 5),)), ("r1", ()), ("i1", (("inspect", 1, 0, (0, 0, 0, 0), (0, 0), 1),)),
            ("g0", (("halt", 0),)), ("g0", ())])
        self.same_kind((debugger.position, debugger.undone), (5, []))
        self.assertEqual(debugger.host.schedule, ["g0", "r1", "i1", "g0", "g0"])

    def test_the_events_are_new_lists(self):
        debugger = Debugger(guest_of(("print", (5,)), ("halt", ())), SAFE)
        debugger.do("g0").clear()
        debugger.run(["g0"]).clear()
        self.assertEqual([events for _, events in debugger.log], [(("print", 0, 5),), (("halt", 0),)])
        self.assertEqual(len(debugger.host.events), 2)

    def test_as_the_host(self):
        random = Random(28)
        for hot in (None, 1, 3):
            for _ in range(20):
                guest, schedule = any_guest(random, True, True), any_schedule(random, True, True, 60)
                policy = Policy([name for name in RULES if random.randrange(3)])
                named = {"slots": random.randrange(9), "longest": random.randrange(1, 9)}
                host = Host(guest, policy, **named) if hot is None else HotHost(guest, policy, hot=hot, **named)
                debugger = Debugger(guest, policy, hot=hot, **named)
                self.assertEqual(debugger.run(schedule[:30]), host.run(schedule[:30]))
                for action in schedule[30:]:
                    self.assertEqual(debugger.do(action), host.do(action))
                self.assertEqual(host_state(debugger.host), host_state(host))
                self.assertEqual([action for action, _ in debugger.log], schedule)
                self.assertEqual([event for _, events in debugger.log for event in events], host.events)
                self.assertIs(debugger.agrees(), agrees(host))

    def test_undone_is_emptied_by_each_action(self):
        for call in (lambda it: it.do("g0"), lambda it: it.run(["i0"]), lambda it: it.run(["p1", "r0"])):
            debugger = debugger_of("sum")
            debugger.run(["g0"] * 4)
            debugger.back(3)
            self.assertEqual(debugger.undone, ["g0"] * 3)
            debugger.run([])
            self.assertEqual(debugger.undone, ["g0"] * 3)
            call(debugger)
            self.assertEqual(debugger.undone, [])

    def test_its_own_lists_as_schedules(self):
        debugger = debugger_of("sum")
        debugger.run(["g0", "i0", "g0"])
        debugger.back(2)
        self.assertEqual(len(debugger.run(debugger.undone)), 1)
        self.assertEqual([action for action, _ in debugger.log], ["g0", "i0", "g0"])
        debugger.run(debugger.host.schedule)
        self.assertEqual(debugger.position, 6)

    def test_wrong_actions(self):
        debugger = debugger_of("sum")
        debugger.run(["g0", "i0", "g0"])
        debugger.back()
        before = state_of(debugger)
        for action in WRONG_ACTIONS:
            self.refuses(ActionError, {"action": action}, debugger.do, action)
            self.refuses(ActionError, {"action": action}, debugger.run, ["g0", "i0", action, "zz"])
            self.assertEqual(state_of(debugger), before)


class TestState(Checks):
    def test_the_view(self):
        # The host defers the set and buffers the store; its view has both done.
        guest = guest_of_texts([(0, "set r0 5; store 40 r0; print 1; halt")], starts=(0, 7))
        debugger = Debugger(guest, Policy(["flush_exit"]))
        debugger.run(["g0", "g0"])
        self.same_kind(debugger.state(0), (6, (5, 0, 0, 0), (0, 0), 1, False, False, (0, 1, False), False))
        self.same_kind(debugger.state(1), (7, (0, 0, 0, 0), (0, 0), 1, False, False, (0, 1, False), False))
        self.same_kind(debugger.cell(2, 8), 5)
        self.same_kind(debugger.host.machine.frames[2][8], 0)
        self.same_kind((debugger.cell(0, 1), debugger.cell(0, 15), debugger.cell(3, 0)), (0, 0, 0))
        self.same_kind((debugger.cell(0, 0), debugger.cell(0, 2)), (3, 5))
        before = state_of(debugger)
        debugger.state(0)
        debugger.cell(2, 8)
        self.assertEqual(state_of(debugger), before)

    def test_agrees(self):
        debugger = Debugger(guest_of(("set", (0, 5)), ("jump", (8,)), ("show", (0,))), Policy.empty())
        self.assertIs(debugger.agrees(), True)
        debugger.run(["g0", "g0"])
        self.assertIs(debugger.agrees(), False)
        debugger = debugger_of("sum")
        debugger.run(["g0"] * 5)
        self.assertIs(debugger.agrees(), True)

    def test_wrong_values(self):
        debugger = debugger_of("sum")
        for p in (-1, 2):
            self.refuses(SettingError, {"name": "processor"}, debugger.state, p)
        for frame in (-1, 4):
            for offset in (-1, 0, 16):
                self.refuses(SettingError, {"name": "frame"}, debugger.cell, frame, offset)
        for offset in (-1, 16):
            self.refuses(SettingError, {"name": "offset"}, debugger.cell, 0, offset)
            self.refuses(SettingError, {"name": "offset"}, debugger.cell, 3, offset)


class TestFind(Checks):
    def test_numbers_and_events(self):
        debugger = debugger_of("feeder")
        debugger.run(["g0", "g0", "d", "g0", "i0", "g0"])
        self.same_kind(list(debugger.find("print")), [(1, ("print", 0, 0)), (4, ("print", 0, 1))])
        self.same_kind(list(debugger.find("device")), [(3, ("device", 0, 1, 1))])
        self.same_kind(list(debugger.find("inspect")), [(5, ("inspect", 0, 2, (0, 0, 0, 0), (0, 0), 1))])
        for name in ("halt", "trap", "", "x"):
            self.assertEqual(list(debugger.find(name)), [])

    def test_the_log_grows_between_two_searches(self):
        debugger = debugger_of("patcher", 3)
        found = []
        for _ in range(24):
            debugger.do("g0")
            found.append(len(list(debugger.find("print"))))
        self.assertEqual(found, sorted(found))
        self.assertEqual(found[-1], 4)
        debugger.back(23)
        self.assertEqual(list(debugger.find("print")), [])
        debugger.forward(3)
        self.assertEqual(list(debugger.find("print")), [(3, ("print", 0, 0))])

    def test_several_events_of_one_action(self):
        debugger = debugger_of("sum")
        debugger.log.append(("g0", (("print", 0, 1), ("halt", 0), ("print", 0, 2))))
        self.assertEqual(list(debugger.find("print")), [(1, ("print", 0, 1)), (1, ("print", 0, 2))])

    def test_a_generator(self):
        debugger = debugger_of("patcher", 3)
        debugger.run(["g0"] * 24)
        found = debugger.find("print")
        self.assertIs(iter(found), found)
        self.assertEqual(next(found), (3, ("print", 0, 0)))


class TestUntil(Checks):
    def test_the_example_of_the_document(self):
        debugger = debugger_of("sum")
        self.same_kind(debugger.until(EventStop("print"), 0), 15)
        self.same_kind(list(debugger.find("print")), [(15, ("print", 0, 3))])
        self.same_kind(debugger.rehearse(["g0"], ["i0"]), [
            [("halt", 0)], [("inspect", 0, 22, (3, 0, 255, 0), (1, 0), 1)]])
        self.assertEqual(debugger.position, 15)

    def test_addresses_and_cells(self):
        debugger = debugger_of("sum")
        self.same_kind(debugger.until(AddressStop(0, 6), 0), 2)
        self.same_kind(debugger.until(AddressStop(0, 6), 0), 0)
        debugger.do("g0")
        self.same_kind(debugger.until(AddressStop(0, 6), 0), 4)
        self.assertEqual(debugger.position, 7)
        debugger = debugger_of("sender", 5)
        self.same_kind(debugger.until(CellStop(3, 1, 5), 1), 2)
        self.same_kind(debugger.until(CellStop(3, 0, 1), 1, limit=2), 2)
        self.assertEqual(debugger.log[-1], ("g1", ()))

    def test_met_at_once(self):
        debugger = debugger_of("sum")
        for limit in (0, 5):
            self.same_kind(debugger.until(AddressStop(0, 0), 0, limit=limit), 0)
        self.assertEqual(debugger.position, 0)
        debugger.do("i0")
        self.same_kind(debugger.until(EventStop("inspect"), 1), 0)
        debugger.run(["g0", "i0"])
        # The events of the last action in the log count ahead of the first go action.
        self.same_kind(debugger.until(EventStop("inspect"), 0), 0)
        debugger.do("g0")
        self.refuses(DebuggerError, {"reason": "limit"}, debugger.until, EventStop("inspect"), 0, limit=3)

    def test_what_a_stop_is_called_with(self):
        debugger = debugger_of("patcher", 1)
        first = Counting(4)
        self.assertEqual(debugger.until(first, 0), 3)
        other = Host(house_guest("patcher", 1), SAFE)
        wanted = [(other.view().key(), [])]
        for _ in range(3):
            events = other.do("g0")
            wanted.append((other.view().key(), events))
        self.same_kind(first.seen, wanted)
        second = Counting(1)
        debugger.until(second, 1)
        self.same_kind(second.seen, [(other.view().key(), [("print", 0, 0)])])

    def test_the_view_counts(self):
        # The host holds the number back, but its view has it.
        debugger = Debugger(guest_of_texts([(0, "set r0 9; store 40 r0; print 1; halt")]), Policy(["eager"]))
        self.same_kind(debugger.until(CellStop(2, 8, 9), 0), 2)
        self.assertEqual(debugger.host.machine.frames[2][8], 0)

    def test_the_limit(self):
        for done, undone in ((0, 0), (5, 0), (5, 3)):
            for limit in (0, 1, 7, 64):
                debugger = debugger_of("sum", 7)
                debugger.run(["g0", "i0"] * 4)
                debugger.back(8 - done)
                debugger.undone = debugger.undone[:undone]
                before = state_of(debugger)
                self.refuses(DebuggerError, {"reason": "limit"}, debugger.until, Stop(), 0, limit=limit)
                self.assertEqual(state_of(debugger), before)

    def test_nothing_is_taken_back_where_nothing_was_done(self):
        debugger = debugger_of("sum")
        host = debugger.host
        self.refuses(DebuggerError, {"reason": "limit"}, debugger.until, Stop(), 0, limit=0)
        self.assertIs(debugger.host, host)

    def test_exactly_at_the_limit(self):
        debugger = debugger_of("sum")
        self.refuses(DebuggerError, {"reason": "limit"}, debugger.until, EventStop("print"), 0, limit=14)
        self.assertEqual(debugger.position, 0)
        self.same_kind(debugger.until(EventStop("print"), 0, limit=15), 15)
        debugger = debugger_of("sum", 7)
        stop = Counting(65)
        self.same_kind(debugger.until(stop, 0), 64)
        stop = Counting(66)
        self.refuses(DebuggerError, {"reason": "limit"}, debugger.until, stop, 0)
        self.assertEqual((debugger.position, len(stop.seen)), (64, 65))

    def test_a_processor_that_halts(self):
        debugger = debugger_of("sum", 0)
        self.refuses(DebuggerError, {"reason": "limit"}, debugger.until, EventStop("trap"), 0, limit=1000)
        self.refuses(DebuggerError, {"reason": "limit"}, debugger.until, AddressStop(1, 0), 1)
        self.assertEqual(debugger.until(EventStop("halt"), 0), 6)
        self.refuses(DebuggerError, {"reason": "limit"}, debugger.until, AddressStop(0, 23), 0, limit=5)
        self.assertEqual(debugger.position, 6)

    def test_undone_is_emptied_by_a_go_action_alone(self):
        debugger = debugger_of("sum")
        debugger.run(["g0"] * 4)
        debugger.back(2)
        debugger.until(AddressStop(0, 6), 0)
        self.assertEqual(debugger.undone, ["g0"] * 2)
        debugger.until(AddressStop(0, 9), 0)
        self.assertEqual(debugger.undone, [])

    def test_wrong_values(self):
        debugger = debugger_of("sum")
        debugger.do("g0")
        stop = Counting(1)
        for p in (-1, 2):
            for limit in (-1, 0, 1001):
                self.refuses(SettingError, {"name": "processor"}, debugger.until, stop, p, limit=limit)
        for limit in (-1, 1001):
            self.refuses(SettingError, {"name": "limit"}, debugger.until, stop, 0, limit=limit)
        self.assertEqual((stop.seen, debugger.position), ([], 1))
        with self.assertRaises(TypeError):
            debugger.until(stop, 0, 5)


class TestBackAndForward(Checks):
    def test_back(self):
        debugger = debugger_of("sum")
        debugger.run(["g0", "i0", "g0", "r0", "g0"])
        old = debugger.host
        state = host_state(old)
        self.assertIsNone(debugger.back(2))
        self.assertIsNot(debugger.host, old)
        self.assertEqual(host_state(old), state)
        self.assertEqual(([action for action, _ in debugger.log], debugger.undone), (["g0", "i0", "g0"], ["r0", "g0"]))
        self.assertIsNone(debugger.back())
        self.assertEqual((debugger.position, debugger.undone), (2, ["g0", "r0", "g0"]))
        other = debugger_of("sum")
        other.run(["g0", "i0"])
        self.assertEqual((host_state(debugger.host), debugger.log), (host_state(other.host), other.log))

    def test_forward(self):
        debugger = debugger_of("sum")
        debugger.run(["g0", "i0", "g0", "i1"])
        before, events = state_of(debugger), list(debugger.host.events)
        debugger.back(4)
        self.assertEqual((debugger.position, debugger.log, debugger.host.schedule), (0, [], []))
        self.same_kind(debugger.forward(), [])
        self.assertEqual(debugger.undone, ["i0", "g0", "i1"])
        self.same_kind(debugger.forward(2), events[:1])
        self.assertEqual((debugger.undone, debugger.position), (["i1"], 3))
        self.same_kind(debugger.forward(1), events[1:])
        self.assertEqual(state_of(debugger), before)

    def test_by_none(self):
        debugger = debugger_of("sum")
        for _ in range(2):
            before = state_of(debugger)
            self.assertIsNone(debugger.back(0))
            self.same_kind(debugger.forward(0), [])
            self.assertEqual(state_of(debugger), before)
            debugger.run(["g0", "i0", "g0"])
            debugger.back(1)

    def test_by_one_too_many(self):
        debugger = debugger_of("sum")
        self.refuses(DebuggerError, {"reason": "start"}, debugger.back)
        self.refuses(DebuggerError, {"reason": "end"}, debugger.forward)
        debugger.run(["g0", "i0", "g0"])
        debugger.back(1)
        before = state_of(debugger)
        self.refuses(DebuggerError, {"reason": "start"}, debugger.back, 3)
        self.refuses(DebuggerError, {"reason": "end"}, debugger.forward, 2)
        self.assertEqual(state_of(debugger), before)
        debugger.back(2)
        self.assertEqual(debugger.undone, ["g0", "i0", "g0"])
        debugger.forward(3)
        self.assertEqual((debugger.position, debugger.undone), (3, []))

    def test_negative_counts(self):
        debugger = debugger_of("sum")
        debugger.run(["g0", "g0"])
        debugger.back()
        before = state_of(debugger)
        for count in (-1, -100):
            self.refuses(SettingError, {"name": "count"}, debugger.back, count)
            self.refuses(SettingError, {"name": "count"}, debugger.forward, count)
        self.assertEqual(state_of(debugger), before)

    def test_new_actions_in_front(self):
        debugger = debugger_of("sum")
        debugger.run(["g0", "i0"])
        debugger.back(1)
        debugger.run(["r0", "p0", "g0"])
        debugger.back(1)
        debugger.back(1)
        self.assertEqual(debugger.undone, ["p0", "g0"])

    def test_the_settings_stay(self):
        debugger = debugger_of("sum", slots=2, longest=8, hot=1)
        debugger.run(["g0"] * 5)
        debugger.back(2)
        host = debugger.host
        self.assertEqual((type(host), len(host.store.slots), host.longest, host.hot), (HotHost, 2, 8, 1))

    def test_any_policy(self):
        random = Random(29)
        for number in range(60):
            hot = random.choice((None, 1, 2))
            policy = Policy([name for name in RULES if random.randrange(10) < random.choice((3, 6, 8))])
            debugger = Debugger(any_guest(random, True, True), policy, slots=random.randrange(9),
                                longest=random.randrange(1, 9), hot=hot)
            schedule = any_schedule(random, True, True, 50)
            states = [state_of(debugger)[:2]]
            for action in schedule:
                debugger.do(action)
                states.append(state_of(debugger)[:2])
            while debugger.position > 0:
                debugger.back(min(debugger.position, random.randrange(1, 20)))
                self.assertEqual(state_of(debugger)[:2], states[debugger.position])
                debugger.forward(random.randrange(min(len(debugger.undone), 4)))
                self.assertEqual(state_of(debugger)[:2], states[debugger.position])
                self.assertEqual(debugger.undone, schedule[debugger.position:])
            debugger.forward(50)
            self.assertEqual(state_of(debugger)[:2], states[-1])


class TestDetour(Checks):
    def prepared(self, **named):
        debugger = debugger_of("sum", 3, **named)
        debugger.run(["g0", "i0", "g0", "g0", "i0"])
        debugger.back(2)
        return debugger

    def test_all_is_as_before(self):
        for named in ({}, {"hot": 1}, {"slots": 1, "longest": 1}):
            debugger = self.prepared(**named)
            before = state_of(debugger)
            objects = (debugger.host, debugger.log, debugger.undone)
            with debugger.detour() as same:
                self.assertIs(same, debugger)
                self.assertEqual(state_of(debugger), before)
                self.assertIs(type(debugger.host), type(objects[0]))
                debugger.forward(1)
                debugger.run(["g0"] * 6)
                debugger.back(8)
                debugger.log.clear()
                debugger.undone.append("g1")
                debugger.host.policy = None
            for found, wanted in zip((debugger.host, debugger.log, debugger.undone), objects):
                self.assertIs(found, wanted)
            self.assertEqual(state_of(debugger), before)
            self.assertEqual(debugger.host.policy.names, SAFE.names)
            self.same_kind(debugger.forward(2), [("inspect", 0, 9, (0, 3, 255, 0), (0, 0), 1)])

    def test_an_error_within(self):
        debugger = self.prepared()
        before = state_of(debugger)
        objects = (debugger.host, debugger.log, debugger.undone)
        with self.assertRaises(DebuggerError):
            with debugger.detour():
                debugger.do("g0")
                debugger.back(100)
        with self.assertRaises(KeyError):
            with debugger.detour():
                debugger.do("g0")
                raise KeyError("x")
        self.assertEqual(state_of(debugger), before)
        for found, wanted in zip((debugger.host, debugger.log, debugger.undone), objects):
            self.assertIs(found, wanted)

    def test_it_begins_where_the_statement_is_entered(self):
        debugger = self.prepared()
        way = debugger.detour()
        debugger.run(["g0", "r0"])
        before = state_of(debugger)
        with way:
            self.assertEqual(state_of(debugger), before)
            debugger.do("g0")
        self.assertEqual(state_of(debugger), before)
        self.assertIsNot(debugger.detour(), debugger.detour())

    def test_a_detour_within_a_detour(self):
        debugger = self.prepared()
        before = state_of(debugger)
        with debugger.detour():
            debugger.do("g0")
            within = state_of(debugger)
            with debugger.detour():
                debugger.run(["g0"] * 3)
                self.assertEqual(debugger.rehearse(["g0"]), [[]])
            self.assertEqual(state_of(debugger), within)
        self.assertEqual(state_of(debugger), before)

    def test_what_was_done_to_the_host_itself(self):
        debugger = self.prepared()
        debugger.host.run(["g0", "r1"])
        before = state_of(debugger)
        with debugger.detour():
            self.assertEqual(host_state(debugger.host), before[0])
        self.assertEqual(state_of(debugger), before)


class TestRehearse(Checks):
    def test_schedules(self):
        debugger = debugger_of("sum", 0)
        debugger.run(["g0"] * 4)
        before = state_of(debugger)
        self.same_kind(debugger.rehearse(), [])
        self.same_kind(debugger.rehearse([]), [[]])
        self.same_kind(debugger.rehearse(["g0"], (), ["i1", "g0"]),
                       [[("print", 0, 0)], [], [("inspect", 1, 0, (0, 0, 0, 0), (0, 0), 1), ("halt", 0)]])
        self.assertEqual(state_of(debugger), before)

    def test_its_own_list(self):
        debugger = debugger_of("sum", 0)
        debugger.run(["g0"] * 6)
        debugger.back(2)
        before = state_of(debugger)
        self.same_kind(debugger.rehearse(debugger.undone, debugger.undone), [[("print", 0, 0), ("halt", 0)], []])
        self.assertEqual(state_of(debugger), before)

    def test_errors(self):
        debugger = debugger_of("sum", 0)
        debugger.run(["g0", "g0"])
        debugger.back()
        before = state_of(debugger)
        for action in WRONG_ACTIONS:
            self.refuses(ActionError, {"action": action}, debugger.rehearse, ["g0", "g0"], ["g0", action], ["zz"])
            self.assertEqual(state_of(debugger), before)


class TestForesee(Checks):
    def test_results(self):
        debugger = debugger_of("sum")
        before = state_of(debugger)
        found = debugger.foresee(EventStop("print"), 0)
        self.same_kind(found, (15, (21, (3, 0, 255, 0), (1, 0), 1, False, False, (0, 1, False), False)))
        self.assertEqual(state_of(debugger), before)
        self.same_kind(debugger.foresee(AddressStop(0, 0), 0)[0], 0)
        self.assertEqual(debugger.foresee(EventStop("print"), 0, limit=15), found)
        self.assertEqual((debugger.until(EventStop("print"), 0), debugger.state(0)), found)
        self.same_kind(debugger.foresee(AddressStop(0, 21), 1)[1],
                       (0, (0, 0, 0, 0), (0, 0), 1, False, False, (0, 1, False), True))

    def test_errors(self):
        debugger = debugger_of("sum")
        debugger.run(["g0", "g0", "g0"])
        debugger.back(2)
        before = state_of(debugger)
        self.refuses(DebuggerError, {"reason": "limit"}, debugger.foresee, EventStop("print"), 0, limit=13)
        self.refuses(DebuggerError, {"reason": "limit"}, debugger.foresee, Stop(), 0)
        self.refuses(SettingError, {"name": "processor"}, debugger.foresee, Stop(), 2, limit=-1)
        self.refuses(SettingError, {"name": "limit"}, debugger.foresee, Stop(), 1, limit=1001)
        self.assertEqual(state_of(debugger), before)
        stop = Counting(66)
        self.refuses(DebuggerError, {"reason": "limit"}, debugger.foresee, stop, 0)
        self.assertEqual(len(stop.seen), 65)
        with self.assertRaises(TypeError):
            debugger.foresee(Stop(), 0, 5)


if __name__ == "__main__":
    unittest.main()
