"""Points 65 to 77: what a host is and does, apart from the rules of its policy."""

import unittest

from checks import Checks, guest_of, guest_with, host_state
from guestlives.errors import ActionError, SettingError
from guestlives.execute import inspect_event
from guestlives.guest import Guest, build_guest
from guestlives.host import Host
from guestlives.machine import Machine
from guestlives.making import build_block, make_block
from guestlives.parts import Part
from guestlives.plain import PlainRun
from guestlives.policy import Policy
from guestlives.store import BlockStore
from guestlives.trial import ACTIONS

NOTHING = Policy.empty()
NAMES = ("placed", "found", "followed", "checked", "invalidated", "left", "polled", "plain")
LOOP = (("print", (5,)), ("jump", (0,)))


def host_of(*instructions, rules=(), slots=4, longest=4, **named):
    return Host(guest_of(*instructions, **named), Policy(rules), slots=slots, longest=longest)


class Hosts(Checks):
    def counted(self, host, **wanted):
        """The counts are those named, and 0 for all others."""
        self.same_kind(host.counts, {name: wanted.get(name, 0) for name in NAMES})

    def stays(self, host, call, *args):
        before = host_state(host)
        result = call(*args)
        self.assertEqual(host_state(host), before)
        return result


class TestNewHost(Hosts):
    def test_attributes(self):
        guest = guest_of(*LOOP)
        host = Host(guest, NOTHING, slots=3, longest=5)
        self.assertEqual(list(vars(host)), ["machine", "policy", "store", "longest", "events", "schedule", "matching",
                                            "counts", "seats", "came", "prepared", "buffers"])
        self.assertIs(host.machine.guest, guest)
        self.assertIs(host.policy, NOTHING)
        self.assertEqual(host.machine.key(), Machine(guest).key())
        self.assertIsInstance(host.store, BlockStore)
        self.assertEqual(host.store.key(), BlockStore(3).key())
        self.same_kind((host.longest, host.events, host.schedule, host.matching), (5, [], [], []))
        self.same_kind((host.seats, host.came, host.prepared, host.buffers),
                       ([None, None], [None, None], [None, None], [[], []]))
        self.assertIsNot(host.buffers[0], host.buffers[1])
        self.counted(host)
        self.same_kind(Host.COUNTS, NAMES)
        self.assertEqual(list(host.counts), list(NAMES))

    def test_defaults(self):
        host = Host(Guest.blank(), NOTHING)
        self.assertEqual((len(host.store.slots), host.longest), (4, 4))
        with self.assertRaises(TypeError):
            Host(Guest.blank(), NOTHING, 4)

    def test_settings(self):
        for slots in (-1, 9, 50):
            for longest in (0, 4, 9):
                self.refuses(SettingError, {"name": "slots"}, Host, Guest.blank(), NOTHING, slots=slots, longest=longest)
        for longest in (-1, 0, 9, 50):
            for slots in (0, 8):
                self.refuses(SettingError, {"name": "longest"}, Host, Guest.blank(), NOTHING, slots=slots,
                             longest=longest)
        for slots in (0, 8):
            for longest in (1, 8):
                self.assertEqual(Host(Guest.blank(), NOTHING, slots=slots, longest=longest).longest, longest)


class TestDo(Hosts):
    def test_the_example_of_the_document(self):
        host = host_of(*LOOP, slots=1)
        self.assertEqual(host.run(["g0"] * 5), [("print", 0, 5)] * 3)
        self.assertEqual((host.seats[0], host.store.all_links()), ((0, 1), [(0, (1, 1), 0)]))
        self.counted(host, placed=1, found=1, followed=1, polled=2)

    def test_wrong_actions(self):
        host = host_of(*LOOP, starts=(0, 0))
        host.run(["g0", "p1", "r0"])
        for action in ("t0", "t1", "", "x", "g2", "d0", "G0", "none", "g0*2"):
            self.stays(host, self.refuses, ActionError, {"action": action}, host.do, action)
            self.stays(host, self.refuses, ActionError, {"action": action}, host.run, ["g0", "d", action, "y"])
            self.stays(host, self.refuses, ActionError, {"action": action}, host.run, (action, "t1", "t0"))

    def test_lists(self):
        host = host_of(*LOOP, starts=(0, 0), writes=((3, 3, 3),))
        schedule = ["g0", "p0", "g1", "d", "i1", "p1", "r0", "g0", "p0", "d"]
        told = [host.do(action) for action in schedule]
        self.same_kind(told, [[("print", 0, 5)], [], [("print", 1, 5)], [("device", 3, 3, 3)],
                              [("inspect", 1, 2, (0, 0, 0, 0), (0, 0), 1)], [], [], [], [], []])
        events = [event for row in told for event in row]
        self.same_kind((host.events, host.schedule), (events, schedule))
        self.same_kind(host.matching, [action for action in schedule if action[0] != "p"])
        other = host_of(*LOOP, starts=(0, 0), writes=((3, 3, 3),))
        self.same_kind(other.run(tuple(schedule)), events)
        self.assertEqual(host_state(other), host_state(host))
        other.run(["i0"]).clear()
        other.do("i0").clear()
        self.assertEqual(len(other.events), len(events) + 2)
        self.stays(other, other.run, [])

    def test_its_own_schedule_again(self):
        host = host_of(*LOOP)
        host.run(["g0", "g0"])
        self.assertEqual(host.run(host.schedule), [("print", 0, 5)])
        self.assertEqual(host.schedule, ["g0"] * 4)

    def test_all_actions_but_takes(self):
        host = host_of(*LOOP)
        host.run([action for action in ACTIONS if action[0] != "t"])
        self.assertEqual(len(host.schedule), 9)

    def test_the_guest_is_not_changed(self):
        guest = build_guest([(0, [("set", (0, 9)), ("store", (1, 0)), ("jump", (0,))])], writes=((0, 0, 5),))
        before = guest.key()
        Host(guest, NOTHING).run(["g0", "g0", "d", "g0", "g0", "r0", "p1", "i0"])
        self.assertEqual(guest.key(), before)

    def test_each_cut_of_a_schedule(self):
        guest = build_guest([(0, [("set", (0, 9)), ("store", (33, 0)), ("load", (1, 33)), ("show", (1,)),
                                  ("jumpz", (3,)), ("compare", (0, 1)), ("jump", (3,))])], starts=(0, 3))
        schedule = ["g0", "p1", "g0", "g1", "r0", "g0", "i0", "g0", "g0", "g1", "g0", "g0", "g0", "i1", "g0"]
        whole = Host(guest, NOTHING)
        whole.run(schedule)
        for count in range(len(schedule) + 1):
            host = Host(guest, NOTHING)
            first = host.run(schedule[:count])
            self.assertEqual(first + host.run(schedule[count:]), whole.events)
            self.assertEqual(host_state(host), host_state(whole))


class TestOtherActions(Hosts):
    def test_raise(self):
        for p in (0, 1):
            host = host_of(*LOOP)
            wanted = host.machine.copy()
            wanted.processors[p].pending = True
            self.same_kind(host.do(f"r{p}"), [])
            self.assertEqual((host.machine.key(), host.matching), (wanted.key(), [f"r{p}"]))

    def test_device(self):
        host = host_of(*LOOP, writes=((2, 5, 7), (0, 1, 9)))
        self.same_kind([host.do("d"), host.do("d"), host.do("d")], [[("device", 2, 5, 7)], [("device", 0, 1, 9)], []])
        self.assertEqual((host.machine.frames[2][5], host.machine.frames[0][1], host.machine.written), (7, 9, 2))

    def test_inspect(self):
        host = host_of(*LOOP)
        host.do("g0")
        for p in (0, 1):
            self.same_kind(host.do(f"i{p}"), [inspect_event(host.machine, p)])

    def test_a_halted_processor(self):
        host = host_of(*LOOP, starts=(None, None))
        for p in (0, 1):
            state = host_state(host)[:6]
            self.same_kind([host.do(f"g{p}"), host.do(f"p{p}")], [[], []])
            self.assertEqual(host_state(host)[:6], state)
        self.counted(host)
        self.assertEqual(host.matching, ["g0", "g1"])
        host = host_of(("halt", ()), ("print", (1,)))
        self.assertEqual(host.run(["g0", "g0", "p0", "g0"]), [("halt", 0)])
        self.assertEqual((host.seats[0], host.came[0], host.prepared[0]), (None, None, None))
        self.counted(host, placed=1, polled=1)


class TestSeats(Hosts):
    def test_the_way_through_a_block(self):
        host = host_of(("print", (1,)), ("print", (2,)), ("jumpz", (0,)), ("print", (3,)))
        seats, came = [], []
        for _ in range(4):
            host.do("g0")
            seats.append(host.seats[0])
            came.append(host.came[0])
        self.same_kind(seats, [(0, 1), (0, 2), None, (1, 1)])
        self.same_kind(came, [None, None, (0, 1, (2, 0)), None])
        self.counted(host, placed=2, polled=2)
        self.assertEqual(host.store.all_links(), [(0, (2, 0), 1)])

    def test_the_end_of_a_block_that_is_as_long_as_allowed(self):
        host = host_of(("print", (1,)), ("print", (2,)), ("print", (3,)), longest=2)
        host.run(["g0", "g0"])
        self.same_kind((host.seats[0], host.came[0]), (None, (0, 1, (1, 0))))
        host.do("g0")
        self.assertEqual(host.store.all_links(), [(0, (1, 0), 1)])

    def test_a_jump_that_jumps(self):
        host = host_of(("compare", (0, 0)), ("jumpz", (9,)), rules=["eager"])
        host.run(["g0", "g0"])
        self.same_kind((host.seats[0], host.came[0]), (None, (0, 1, (1, 1))))

    def test_no_came_behind_what_is_not_linkable(self):
        for name, operands in (("lower", ()), ("enable", ()), ("map", (3, 3)), ("resume", ()), ("right", (3, 7))):
            host = host_of(("print", (1,)), (name, operands), ("jump", (0,)))
            host.run(["g0", "g0"])
            self.same_kind((host.seats[0], host.came[0]), (None, None))

    def test_a_trap_leads_out_without_came(self):
        for name, operands, pages in (
            ("call", (), ((0, 7), (1, 7), (2, 7), (3, 7))), ("load", (0, 16), ((0, 7), (1, 3), (2, 7), (3, 7))),
        ):
            host = host_of(("print", (1,)), (name, operands), ("print", (2,)), pages=pages)
            events = host.run(["g0", "g0"])
            self.assertEqual(events[1], ("trap", 0, {"call": "call", "load": "read"}[name], 2, (0, 0, 0, 0), (0, 0)))
            self.same_kind((host.seats[0], host.came[0], host.machine.processors[0].pc), (None, None, 60))

    def test_a_trap_whose_handler_is_the_next_part(self):
        host = host_of(("print", (1,)), ("load", (0, 16)), ("print", (2,)), handlers=(5, 60),
                       pages=((0, 7), (1, 3), (2, 7), (3, 7)))
        host.run(["g0", "g0"])
        self.same_kind((host.seats[0], host.came[0]), (None, None))

    def test_both_processors_in_one_block(self):
        host = host_of(("print", (1,)), ("print", (2,)), ("print", (3,)), starts=(0, 0))
        self.assertEqual(host.run(["g0", "g1", "g0", "g1", "g1"]), [
            ("print", 0, 1), ("print", 1, 1), ("print", 0, 2), ("print", 1, 2), ("print", 1, 3)])
        self.assertEqual(host.seats, [(0, 2), (0, 3)])
        self.counted(host, placed=1, found=1, polled=2)

    def test_a_part_that_the_block_has_no_more(self):
        # Processor 1 puts a shorter block into the slot while processor 0 is in it.
        host = Host(build_guest([(0, [("print", (1,)), ("print", (2,)), ("print", (3,))]), (32, [("halt", ())])],
                                starts=(0, 32)), NOTHING, slots=1)
        host.run(["g0", "g0", "g1"])
        self.assertEqual((host.seats[0], host.store.serial, len(host.store.slots[0].parts)), ((0, 2), 2, 1))
        before = host_state(host)[:6]
        host.do("p0")
        self.assertEqual(host_state(host)[:6], before)
        self.assertEqual(host.run(["g0"]), [("print", 0, 3)])
        self.assertEqual((host.seats[0], host.came[0], host.store.serial), ((0, 1), None, 3))
        self.counted(host, placed=3, polled=3)

    def test_without_the_part_it_goes_on_as_one_that_is_out(self):
        guest = build_guest([(0, [("enable", ()), ("print", (1,)), ("print", (2,)), ("print", (3,))]),
                             (32, [("halt", ())])], starts=(0, 32))
        host = Host(guest, NOTHING, slots=1)
        host.run(["g0", "g0", "g0", "g1", "r0"])
        self.assertEqual(host.seats[0], (0, 2))
        self.assertEqual(host.run(["g0"]), [("trap", 0, "interrupt", 5, (0, 0, 0, 0), (0, 0))])
        self.assertEqual((host.seats[0], host.matching[-1]), (None, "t0"))
        # Its old seat does not hold the slot.
        host = Host(guest, NOTHING, slots=1)
        host.run(["g0", "g0", "g0", "g1"])
        host.policy = Policy(["hold_slot"])
        self.assertEqual(host.run(["g0"]), [("print", 0, 3)])
        self.assertEqual((host.seats[0], host.counts["plain"]), ((0, 1), 0))

    def test_a_jump_in_the_midst_of_a_block(self):
        parts = [Part(0, "print", (1,), 2, ()), Part(2, "jumpz", (9,), 2, ()), Part(9, "print", (9,), 2, ())]
        for zero, seat, came in ((1, (0, 2), None), (0, None, (0, 1, (1, 0)))):
            host = host_of(*LOOP)
            host.store.put(build_block(0, 1, parts, NOTHING), 0, NOTHING)
            host.machine.processors[0].zero = zero
            host.run(["g0", "g0"])
            self.same_kind((host.seats[0], host.came[0]), (seat, came))

    def test_a_part_of_another_block_in_the_slot(self):
        guest = build_guest([(0, [("print", (1,)), ("print", (2,)), ("print", (3,))]),
                             (32, [("print", (6,)), ("print", (7,)), ("print", (8,))])], starts=(0, 32))
        host = Host(guest, NOTHING, slots=1)
        self.assertEqual(host.run(["g0", "g1", "g0"]), [("print", 0, 1), ("print", 1, 6), ("print", 0, 7)])
        self.same_kind((host.seats[0], host.machine.processors[0].pc), ((0, 2), 36))


class TestLookup(Hosts):
    def test_found_again(self):
        host = host_of(("jumpz", (4,)), ("jump", (0,)), ("print", (1,)))
        host.run(["g0"] * 5)
        self.counted(host, placed=2, found=1, followed=2, polled=3)
        self.assertEqual(host.store.all_links(), [(0, (0, 0), 1), (1, (0, 1), 0)])

    def test_no_slots(self):
        host = host_of(*LOOP, slots=0)
        self.assertEqual(host.run(["g0"] * 4), [("print", 0, 5)] * 2)
        self.counted(host, polled=4, plain=4)
        self.same_kind((host.seats, host.came, host.store.slots), ([None, None], [None, None], []))

    def test_no_block(self):
        host = Host(guest_with([19], at=0, handlers=(16, 16)), NOTHING)
        self.assertEqual(host.run(["g0", "i0"]), [("trap", 0, "invalid", 0, (0, 0, 0, 0), (0, 0)),
                                                  ("inspect", 0, 16, (0, 0, 0, 0), (0, 0), 1)])
        self.counted(host, polled=1, plain=1)

    def test_a_plain_instruction_takes_came_away(self):
        host = host_of(("jump", (40,)), handlers=(16, 16))
        host.machine.frames[2][8] = 19
        host.do("g0")
        self.assertEqual(host.came[0], (0, 1, (0, 1)))
        host.do("g0")
        self.assertIsNone(host.came[0])
        host.do("g0")
        self.assertEqual(host.store.all_links(), [])

    def test_the_oldest_block_makes_room(self):
        host = host_of(("jump", (4,)), ("jump", (6,)), ("jump", (2,)), ("jump", (0,)), slots=2)
        entries = []
        for _ in range(6):
            host.do("g0")
            entries.append([block and block.entry for block in host.store.slots])
        self.assertEqual(entries, [[0, None], [0, 4], [2, 4], [2, 6], [0, 6], [0, 4]])

    def test_the_level_of_the_processor(self):
        host = host_of(("lower", ()), ("print", (1,)), ("map", (1, 1)))
        host.run(["g0", "g0"])
        self.assertEqual([block.level for block in host.store.slots[:2]], [1, 0])

    def test_the_longest_of_the_host(self):
        for longest in range(1, 9):
            host = host_of(*[("print", (number,)) for number in range(9)], longest=longest)
            host.do("g0")
            self.assertEqual(len(host.store.slots[0].parts), longest)


class TestLinks(Hosts):
    def test_a_link_is_followed_without_lookup(self):
        host = host_of(*LOOP)
        host.run(["g0"] * 4)
        host.store.slots[0].valid = False
        self.assertEqual(host.run(["g0"]), [("print", 0, 5)])
        self.assertEqual((host.seats[0], host.came[0]), ((0, 1), None))
        self.counted(host, placed=1, found=1, followed=1, polled=2)

    def test_a_link_leads_to_whatever_is_in_the_slot(self):
        host = host_of(*LOOP, ("print", (9,)))
        host.run(["g0"] * 4)
        host.store.slots[1] = make_block(host.machine, 4, 1, NOTHING, 4)
        host.store.slots[0].links[1, 1] = 1
        self.assertEqual(host.run(["g0"]), [("print", 0, 9)])
        self.assertEqual(host.seats[0], (1, 1))
        self.assertEqual(host.counts["followed"], 1)

    def test_a_came_that_does_not_count(self):
        host = host_of(*LOOP)
        host.run(["g0"] * 4)
        host.came[0] = (0, 9, (1, 1))
        host.do("g0")
        self.counted(host, placed=1, found=2, polled=3)

    def test_no_link_from_a_block_that_is_invalid(self):
        host = host_of(*LOOP)
        host.run(["g0"] * 2)
        host.store.slots[0].valid = False
        host.do("g0")
        self.assertEqual(host.store.all_links(), [])
        self.counted(host, placed=2, polled=2)

    def test_no_link_from_a_block_whose_slot_is_used_for_the_new_one(self):
        host = host_of(("jump", (4,)), ("print", (1,)), ("print", (5,)), slots=1)
        host.run(["g0", "g0"])
        self.assertEqual((host.store.all_links(), host.store.slots[0].entry), ([], 4))

    def test_a_prepared_block_keeps_from_the_link(self):
        host = host_of(*LOOP)
        host.run(["g0"] * 4)
        host.prepared[0] = make_block(host.machine, 0, 1, NOTHING, 1)
        host.do("g0")
        self.assertIsNone(host.prepared[0])
        self.counted(host, placed=1, found=2, polled=3)


class TestInterrupts(Hosts):
    GUEST = build_guest([(0, [("enable", ()), ("print", (1,)), ("jump", (1,))]), (60, [("halt", ())])])
    EVENT = ("trap", 0, "interrupt", 1, (0, 0, 0, 0), (0, 0))

    def test_by_lookup(self):
        host = Host(self.GUEST, NOTHING)
        self.same_kind(host.run(["r0", "g0", "p0", "g0"]), [self.EVENT])
        self.assertEqual(host.matching, ["r0", "g0", "t0"])
        self.assertEqual(host.schedule, ["r0", "g0", "p0", "g0"])
        processor = host.machine.processors[0]
        self.assertEqual((processor.pending, processor.pc, host.prepared[0], host.came[0]), (False, 60, None, None))
        self.counted(host, placed=1, polled=2)
        self.assertEqual(host.run(["g0"]), [("halt", 0)])

    def test_not_inside_a_block(self):
        host = Host(self.GUEST, NOTHING)
        self.assertEqual(host.run(["g0", "g0", "r0", "g0"]), [("print", 0, 1)])
        self.assertEqual(host.do("g0"), [self.EVENT])
        self.assertEqual(host.matching, ["g0", "g0", "r0", "g0", "t0"])

    def test_not_by_a_link_that_does_not_poll(self):
        host = Host(self.GUEST, NOTHING)
        host.run(["g0"] * 5)
        self.assertEqual(host.run(["r0"] + ["g0"] * 20), [("print", 0, 1)] * 10)
        self.counted(host, placed=2, found=1, followed=10, polled=3)

    def test_came_is_gone(self):
        host = Host(self.GUEST, NOTHING)
        host.run(["g0"] * 3)
        self.assertIsNotNone(host.came[0])
        host.run(["r0", "g0"])
        self.assertIsNone(host.came[0])

    def test_the_other_processor(self):
        host = Host(build_guest([(0, [("enable", ()), ("halt", ())])], starts=(0, 0), handlers=(60, 50)), NOTHING)
        self.assertEqual(host.run(["g0", "g1", "r1", "g0", "g1"]),
                         [("halt", 0), ("trap", 1, "interrupt", 1, (0, 0, 0, 0), (0, 0))])
        self.assertEqual(host.matching, ["g0", "g1", "r1", "g0", "t1"])

    def test_interrupts_that_are_not_accepted(self):
        host = host_of(*LOOP)
        self.assertEqual(host.run(["r0", "g0"]), [("print", 0, 5)])
        self.assertEqual(host.matching, ["r0", "g0"])


class TestPrepare(Hosts):
    def test_a_prepared_block_is_placed(self):
        host = host_of(*LOOP)
        state = host.machine.key()
        self.same_kind(host.do("p0"), [])
        block = host.prepared[0]
        self.assertEqual(block.key(), make_block(host.machine, 0, 1, NOTHING, 4).key())
        self.assertEqual((host.machine.key(), host.store.key()), (state, BlockStore(4).key()))
        self.counted(host)
        host.do("p0")
        self.assertIs(host.prepared[0], block)
        host.do("g0")
        self.assertIs(host.store.slots[0], block)
        self.assertEqual((host.prepared[0], block.serial), (None, 1))
        self.counted(host, placed=1, polled=1)

    def test_what_is_prepared_is_what_was_read(self):
        host = host_of(*LOOP, writes=((0, 1, 9),))
        self.assertEqual(host.run(["p0", "d", "g0"])[1:], [("print", 0, 5)])
        host = host_of(*LOOP, writes=((0, 1, 9),))
        self.assertEqual(host.run(["d", "p0", "g0"])[1:], [("print", 0, 9)])

    def test_a_processor_in_a_block(self):
        host = host_of(*LOOP)
        host.do("g0")
        host.do("p0")
        self.assertEqual((host.seats[0], host.prepared[0]), ((0, 1), None))

    def test_a_processor_that_can_go_by_link(self):
        host = host_of(("print", (1,)), ("jump", (0,)))
        host.run(["g0"] * 4)
        host.store.slots[0].valid = False
        host.do("p0")
        self.assertIsNone(host.prepared[0])
        host.store.slots[0].links.clear()
        host.do("p0")
        self.assertIsNotNone(host.prepared[0])

    def test_a_block_that_lookup_finds(self):
        host = host_of(*LOOP)
        host.run(["g0", "g0", "p0"])
        self.assertIsNone(host.prepared[0])
        host.store.slots[0].valid = False
        host.do("p0")
        self.assertIsNotNone(host.prepared[0])
        self.counted(host, placed=1, polled=1)

    def test_no_block_can_be_made(self):
        host = Host(guest_with([19]), NOTHING)
        host.do("p0")
        self.assertIsNone(host.prepared[0])

    def test_it_is_gone_when_lookup_finds_one(self):
        host = host_of(*LOOP, starts=(0, 0))
        host.run(["p0", "g1", "g0"])
        self.assertEqual((host.prepared, host.seats), ([None, None], [(0, 1), (0, 1)]))
        self.counted(host, placed=1, found=1, polled=2)

    def test_it_is_gone_without_a_slot(self):
        host = host_of(*LOOP, slots=0)
        self.assertEqual(host.run(["p0", "g0"]), [("print", 0, 5)])
        self.assertIsNone(host.prepared[0])
        self.counted(host, polled=1, plain=1)

    def test_each_processor_has_its_own(self):
        host = host_of(*LOOP, starts=(0, 2))
        host.run(["p1", "p0"])
        self.assertEqual([block.entry for block in host.prepared], [0, 2])

    def test_the_settings_of_the_host(self):
        host = host_of(("lower", ()), ("print", (1,)), ("print", (2,)), ("print", (3,)), longest=2, rules=["eager"])
        host.run(["g0", "p0"])
        self.assertEqual(host.prepared[0].key(), make_block(host.machine, 1, 0, Policy(["eager"]), 2).key())


class TestView(Hosts):
    def test_deferred_values_and_buffered_stores(self):
        guest = build_guest([(0, [("set", (0, 9)), ("store", (33, 0)), ("set", (1, 6)), ("print", (1,))]),
                             (16, [("set", (2, 7)), ("store", (33, 2)), ("set", (3, 5)), ("print", (1,))])],
                            starts=(0, 16))
        for schedule in (["g0"] * 3 + ["g1"] * 3, ["g1"] * 3 + ["g0"] * 3):
            host = Host(guest, NOTHING)
            host.run(schedule)
            self.assertEqual(host.buffers, [[(2, 1, 9, 2)], [(2, 1, 7, 2)]])
            view = self.stays(host, host.view)
            self.assertIsInstance(view, Machine)
            self.assertEqual(view.frames[2][1], 7)
            self.assertEqual([processor.regs for processor in view.processors], [[9, 6, 0, 0], [0, 0, 7, 5]])
            self.assertEqual([processor.regs for processor in host.machine.processors], [[9, 0, 0, 0], [0, 0, 7, 0]])
            self.assertEqual(view.key(), PlainRun.replay(guest, ["g0"] * 3 + ["g1"] * 3).machine.key())
            view.frames[0][0] = 99
            view.processors[0].regs[0] = 99
            view.pages[0] = (1, 1)
            self.assertEqual(host.view().key(), PlainRun.replay(guest, ["g0"] * 3 + ["g1"] * 3).machine.key())

    def test_out_of_a_block(self):
        host = host_of(*LOOP)
        self.assertEqual(host.view().key(), host.machine.key())
        self.assertIsNot(host.view(), host.machine)
        host.run(["r0", "g0", "g0"])
        self.assertEqual(host.view().key(), host.machine.key())


if __name__ == "__main__":
    unittest.main()
