"""Points 68 to 77: what each rule of a policy changes in a host."""

import unittest

from checks import Checks, guest_of, host_state
from guestlives.guest import build_guest
from guestlives.host import Host
from guestlives.making import make_block
from guestlives.policy import Policy

LOOP = (("print", (5,)), ("jump", (0,)))
ALIAS = ((0, 7), (0, 7), (2, 7), (3, 7))
KEEP = "keep_dropped"


def two_programs(first, second, **named):
    return build_guest([(0, list(first)), (32, list(second))], starts=(0, 32), **named)


def host_with(guest, *rules, slots=4, longest=8):
    return Host(guest, Policy(rules), slots=slots, longest=longest)


def prints(host, schedule):
    """The numbers that a schedule prints."""
    return [event[2] for event in host.run(schedule) if event[0] == "print"]


class TestInvalidation(Checks):
    def valid(self, guest, schedule, *rules):
        host = host_with(guest, *rules)
        host.run(schedule)
        return (host.store.slots[0].valid, host.counts["invalidated"])

    def test_a_store_of_the_processor_itself(self):
        guest = guest_of(("set", (0, 2)), ("store", (9, 0)), ("print", (1,)), ("print", (1,)), ("halt", ()))
        for rules, wanted in (((), (True, 0)), (("invalidate_store",), (False, 1))):
            self.assertEqual(self.valid(guest, ["g0"] * 2, *rules, "prompt_store"), wanted)

    def test_a_store_of_the_other_processor(self):
        guest = two_programs(LOOP, [("set", (0, 2)), ("store", (1, 0)), ("halt", ())])
        for rules, wanted in (((), (True, 0)), (("invalidate_store",), (False, 1))):
            self.assertEqual(self.valid(guest, ["g0", "g1", "g1", "g1"], *rules), wanted)

    def test_a_store_through_another_page(self):
        guest = two_programs(LOOP, [("set", (0, 2)), ("store", (17, 0)), ("halt", ())], pages=ALIAS)
        for rules, wanted in ((("invalidate_store",), (True, 0)), (("invalidate_store", "track_frames"), (False, 1))):
            self.assertEqual(self.valid(guest, ["g0", "g1", "g1", "g1"], *rules), wanted)

    def test_the_device(self):
        guest = guest_of(*LOOP, writes=((0, 1, 2),))
        for rules, wanted in (
            (("invalidate_device",), (True, 0)), (("track_frames",), (True, 0)),
            (("invalidate_device", "track_frames"), (False, 1)),
        ):
            self.assertEqual(self.valid(guest, ["g0", "d"], *rules), wanted)

    def test_maps_and_rights(self):
        for name, rule in (("map", "invalidate_map"), ("right", "invalidate_rights")):
            guest = two_programs(LOOP, [(name, (0, 1)), ("halt", ())])
            for rules, wanted in (((), (True, 0)), ((rule,), (False, 1))):
                self.assertEqual(self.valid(guest, ["g0", "g1"], *rules), wanted)

    def test_a_plain_instruction_is_noticed(self):
        guest = two_programs(LOOP, [("set", (0, 2)), ("store", (1, 0)), ("map", (0, 1))])
        host = host_with(guest, "invalidate_store", "invalidate_map", "hold_slot", slots=1)
        host.run(["g0", "g1", "g1"])
        self.assertEqual((host.store.slots[0].valid, host.counts["plain"]), (False, 2))
        host.store.slots[0].valid = True
        host.do("g1")
        self.assertEqual((host.store.slots[0].valid, host.counts["plain"]), (False, 3))

    def test_cells_in_further_pages(self):
        guest = build_guest([(14, [("print", (1,)), ("print", (5,)), ("halt", ())])], starts=(14, None),
                            writes=((1, 1, 2),))
        base = ("invalidate_device", "track_frames")
        for rules, wanted in (((), (True, 0)), (("track_second",), (False, 1))):
            self.assertEqual(self.valid(guest, ["g0", "d"], *base, *rules), wanted)

    def test_a_block_that_is_invalid_already_does_not_count(self):
        guest = guest_of(*LOOP, writes=((0, 1, 2), (0, 1, 3)))
        self.assertEqual(self.valid(guest, ["g0", "d", "d"], "invalidate_device", "track_frames"), (False, 1))

    def test_several_blocks(self):
        guest = guest_of(("jump", (2,)), ("print", (5,)), ("jump", (0,)), writes=((0, 1, 2), (0, 3, 2)))
        host = host_with(guest, "invalidate_device", "track_frames")
        host.run(["g0", "g0", "d"])
        self.assertEqual([block.valid for block in host.store.slots[:2]], [False, True])
        host.do("d")
        self.assertEqual([block.valid for block in host.store.slots[:2]], [False, False])
        self.assertEqual(host.counts["invalidated"], 2)


class TestTrackPrepared(Checks):
    def test_each_kind_of_change(self):
        base = ("invalidate_store", "invalidate_device", "track_frames", "invalidate_map", "invalidate_rights")
        for instruction in (("store", (1, 0)), ("map", (0, 1)), ("right", (0, 7))):
            guest = two_programs(LOOP, [instruction, ("halt", ())])
            for rules, wanted in ((base, 1), (base + ("track_prepared",), 0), (("track_prepared",), 1)):
                host = host_with(guest, *rules, "prompt_store")
                host.run(["p0", "g1"])
                self.assertEqual(len([block for block in host.prepared if block]), wanted)
                self.assertEqual(host.counts["invalidated"], 0)

    def test_the_device_and_both_processors(self):
        guest = guest_of(*LOOP, starts=(0, 2), writes=((0, 3, 0), (0, 1, 9), (3, 3, 3)))
        rules = ("invalidate_device", "track_frames", "track_prepared")
        host = host_with(guest, *rules)
        host.run(["p0", "p1", "d"])
        self.assertEqual(host.prepared, [None, None])
        host.run(["p0", "p1", "d"])
        self.assertEqual([block and block.entry for block in host.prepared], [None, 2])
        host.run(["p0", "d"])
        self.assertEqual([block and block.entry for block in host.prepared], [0, 2])


class TestLeaving(Checks):
    SELF = guest_of(("set", (0, 2)), ("set", (1, 8)), ("store", (10, 0)), ("print", (1,)), ("show", (1,)), ("halt", ()))
    OTHER = two_programs([("set", (1, 8)), ("print", (1,)), ("show", (1,)), ("halt", ())],
                         [("set", (0, 2)), ("store", (4, 0)), ("halt", ())])
    WATCHED = ("invalidate_store", "prompt_store", KEEP)

    def test_leave_self(self):
        host = host_with(self.SELF, *self.WATCHED)
        self.assertEqual(prints(host, ["g0"] * 5), [1, 8])
        self.assertEqual(host.counts["left"], 0)
        for rules, shown in ((("leave_self",), 0), (("leave_self", "map_leave"), 8)):
            host = host_with(self.SELF, *self.WATCHED, *rules)
            host.run(["g0"] * 3)
            self.assertEqual((host.seats[0], host.came[0], host.counts["left"]), (None, None, 1))
            self.assertEqual((host.counts["invalidated"], host.store.all_links()), (1, []))
            self.assertEqual(prints(host, ["g0"] * 2), [2, shown])
            self.assertEqual(host.counts["placed"], 2)

    def test_leave_self_needs_a_hit_of_its_own_block(self):
        host = host_with(self.SELF, "leave_self", "prompt_store", KEEP)
        self.assertEqual(prints(host, ["g0"] * 5), [1, 8])
        host = host_with(self.OTHER, "leave_self", *self.WATCHED)
        self.assertEqual(prints(host, ["g0", "g1", "g1", "g0", "g0"]), [1, 8])
        self.assertEqual((host.counts["left"], host.seats[1] is None), (0, False))

    def test_leave_self_from_an_invalid_block(self):
        host = host_with(self.SELF, *self.WATCHED, "leave_self")
        host.run(["g0"] * 2)
        host.store.slots[0].valid = False
        host.do("g0")
        self.assertEqual((host.seats[0], host.counts["left"], host.counts["invalidated"]), (None, 1, 0))

    def test_a_processor_that_is_out_does_not_leave(self):
        # The last part of the block writes into the block: the processor goes out by itself.
        host = host_with(guest_of(("print", (1,)), ("store", (1, 0)), ("halt", ())), *self.WATCHED, "leave_self",
                         longest=2)
        host.run(["g0", "g0"])
        self.assertEqual((host.counts["left"], host.came[0]), (0, (0, 1, (1, 0))))
        host.do("g0")
        self.assertEqual(host.store.all_links(), [])

    def test_leave_other(self):
        schedule = ["g0", "g1", "g1", "g0", "g0"]
        for rules, wanted in ((("leave_self",), [1, 8]), (("leave_other",), [2, 0]),
                              (("leave_other", "map_leave"), [2, 8])):
            host = host_with(self.OTHER, *self.WATCHED, *rules)
            self.assertEqual(prints(host, schedule), wanted)
            self.assertEqual(host.counts["left"], int("leave_other" in rules))
            self.assertIsNotNone(host.seats[1])

    def test_leave_other_by_the_device(self):
        guest = guest_of(("print", (1,)), ("print", (2,)), starts=(0, 0), writes=((0, 3, 9), (0, 3, 8)))
        rules = ("invalidate_device", "track_frames")
        host = host_with(guest, *rules, "leave_other")
        self.assertEqual(prints(host, ["g0", "g1", "d"]), [1, 1])
        self.assertEqual((host.seats, host.counts["left"]), ([None, None], 2))
        self.assertEqual(prints(host, ["g0", "d", "g1"]), [9, 8])
        self.assertEqual(host.counts["left"], 3)
        host = host_with(guest, *rules, "leave_self")
        self.assertEqual(prints(host, ["g0", "g1", "d", "g0", "d", "g1"]), [1, 1, 2, 2])

    def test_the_writer_does_not_leave_as_another_one(self):
        host = host_with(self.SELF, *self.WATCHED, "leave_other")
        host.run(["g0"] * 3)
        self.assertEqual((host.seats[0], host.counts["left"]), ((0, 3), 0))

    def test_leave_other_from_a_block_that_is_invalid_already(self):
        host = host_with(self.OTHER, *self.WATCHED, "leave_other")
        host.run(["g0", "g1"])
        host.store.slots[0].valid = False
        host.do("g1")
        self.assertEqual((host.seats[0], host.counts["left"], host.counts["invalidated"]), (None, 1, 0))

    def test_another_slot_is_not_left(self):
        guest = two_programs([("print", (1,)), ("print", (2,))], [("print", (3,)), ("print", (4,))],
                             writes=((2, 3, 9),))
        host = host_with(guest, "invalidate_device", "track_frames", "leave_other")
        host.run(["g0", "g1", "d"])
        self.assertEqual(host.seats, [(0, 1), None])

    def test_buffered_stores_stay_until_the_next_go_or_prepare(self):
        guest = guest_of(("set", (0, 2)), ("store", (40, 0)), ("print", (1,)), ("halt", ()), writes=((0, 7, 9),))
        for action in ("g0", "p0"):
            host = host_with(guest, "invalidate_device", "track_frames", "leave_other", "map_leave")
            host.run(["g0", "g0", "d", "i0", "r0"])
            self.assertEqual((host.seats[0], host.buffers[0], host.machine.frames[2][8]), (None, [(2, 8, 2, 2)], 0))
            self.assertEqual(host.view().frames[2][8], 2)
            host.do(action)
            self.assertEqual((host.buffers[0], host.machine.frames[2][8]), ([], 2))


class TestLinksAndSlots(Checks):
    def looped(self, *rules):
        """A host that has followed its link, and then its block is invalidated."""
        host = host_with(guest_of(*LOOP, writes=((0, 1, 9),)), "invalidate_device", "track_frames", *rules)
        host.run(["g0"] * 4 + ["d"])
        return host

    def test_cut_links(self):
        host = self.looped()
        self.assertEqual((host.store.all_links(), prints(host, ["g0"])), ([(0, (1, 1), 0)], [5]))
        self.assertEqual(host.counts["followed"], 1)
        host = self.looped("cut_links")
        self.assertEqual((host.store.all_links(), prints(host, ["g0"])), ([], [9]))
        self.assertEqual(host.counts["followed"], 0)

    def test_clear_links(self):
        guest = build_guest([(0, [("print", (1,)), ("jumpz", (10,)), ("compare", (1, 1)), ("jump", (0,))]),
                             (10, [("print", (5,)), ("jump", (4,))])])
        for rules, links, wanted in (((), [(1, (1, 1), 0)], 5), (("clear_links",), [], 1)):
            host = host_with(guest, "eager", *rules, slots=2)
            host.run(["g0"] * 6)
            self.assertEqual(host.store.all_links(), [(0, (1, 0), 1), (1, (1, 1), 0)])
            host.do("g0")
            self.assertEqual(host.store.all_links(), links)
            self.assertEqual(prints(host, ["g0"] * 4), [wanted])

    def test_hold_slot(self):
        guest = two_programs([("print", (1,)), ("print", (2,)), ("halt", ())], [("print", (3,)), ("print", (4,))])
        host = host_with(guest, slots=1)
        self.assertEqual(prints(host, ["g0", "g1", "g0"]), [1, 3, 4])
        host = host_with(guest, "hold_slot", slots=1)
        self.assertEqual(prints(host, ["g0", "g1", "g0", "g1"]), [1, 3, 2, 4])
        self.assertEqual((host.counts["placed"], host.counts["plain"]), (1, 2))

    def test_no_links(self):
        host = host_with(guest_of(*LOOP), "no_links")
        host.run(["g0"] * 6)
        self.assertEqual((host.store.all_links(), host.counts["found"], host.counts["followed"]), ([], 2, 0))

    def test_key_level(self):
        guest = guest_of(("disable", ()), ("lower", ()), ("jump", (0,)))
        host = host_with(guest)
        self.assertEqual(host.run(["g0"] * 4), [])
        self.assertEqual(host.machine.processors[0].pc, 1)
        host = host_with(guest, "key_level")
        self.assertEqual(host.run(["g0"] * 4), [("trap", 0, "level", 0, (0, 0, 0, 0), (0, 0))])
        self.assertEqual([block and block.level for block in host.store.slots], [1, 1, 0, 0])

    def test_stop_page_stop_store_and_single(self):
        guest = guest_of(("store", (40, 0)), ("print", (1,)), ("set", (1, 1)), ("set", (1, 1)), ("print", (2,)),
                         ("halt", ()), at=4, starts=(4, None))
        for rule, wanted in (("eager", 6), ("stop_store", 1), ("stop_page", 4), ("single", 1)):
            host = host_with(guest, rule)
            host.do("g0")
            self.assertEqual(len(host.store.slots[0].parts), wanted)


class TestCheckEntry(Checks):
    def test_a_block_that_lookup_finds(self):
        host = host_with(guest_of(*LOOP, writes=((0, 1, 9),)), "check_entry")
        self.assertEqual(prints(host, ["g0", "g0", "d", "g0"]), [5, 9])
        counts = {name: host.counts[name] for name in ("placed", "found", "checked", "invalidated", "polled")}
        self.assertEqual(counts, {"placed": 2, "found": 0, "checked": 4, "invalidated": 1, "polled": 2})
        self.assertEqual([block and block.valid for block in host.store.slots], [False, True, None, None])
        host = host_with(guest_of(*LOOP), "check_entry")
        host.run(["g0", "g0", "g0"])
        self.assertEqual((host.counts["found"], host.counts["checked"]), (1, 4))

    def test_a_link_that_leads_to_another_block(self):
        host = host_with(guest_of(*LOOP, writes=((0, 1, 9),)), "check_entry")
        host.run(["g0"] * 6)
        self.assertEqual((host.counts["followed"], host.counts["checked"], host.counts["polled"]), (1, 8, 2))
        self.assertEqual(prints(host, ["d", "g0"]), [9])
        # The check of the link is followed by that of the block that lookup finds.
        self.assertEqual((host.counts["followed"], host.counts["checked"], host.counts["polled"]), (1, 16, 3))
        self.assertEqual((host.counts["invalidated"], host.store.all_links()), (1, []))

    def test_a_link_is_removed_though_the_block_is_valid(self):
        guest = guest_of(("print", (1,)), ("jump", (0,)), ("print", (9,)))
        host = host_with(guest, "check_entry")
        host.run(["g0"] * 4)
        host.store.put(make_block(host.machine, 4, 1, Policy.empty(), 1), 1, Policy.empty())
        host.store.slots[0].links[1, 1] = 1
        host.do("g0")
        self.assertEqual((host.store.all_links(), host.store.slots[1].valid), ([(0, (1, 1), 0)], True))
        self.assertEqual((host.counts["found"], host.counts["followed"], host.counts["checked"]), (2, 0, 10))
        host = host_with(guest, "check_entry", "no_links")
        host.run(["g0"] * 4)
        host.store.put(make_block(host.machine, 4, 1, Policy.empty(), 1), 1, Policy.empty())
        host.store.slots[0].links[1, 1] = 1
        host.do("g0")
        self.assertEqual(host.store.all_links(), [])

    def test_an_invalid_block_that_is_the_same_may_be_followed(self):
        host = host_with(guest_of(*LOOP), "check_entry")
        host.run(["g0"] * 4)
        host.store.slots[0].valid = False
        host.do("g0")
        self.assertEqual((host.seats[0], host.counts["followed"]), ((0, 1), 1))

    def test_the_other_processor_leaves_a_block_that_fails_its_check(self):
        guest = guest_of(("print", (1,)), ("print", (2,)), starts=(0, 0), writes=((0, 1, 9), (0, 3, 8)))
        host = host_with(guest, "check_entry", "leave_other")
        self.assertEqual(prints(host, ["g0", "d", "d", "g1", "g0"]), [1, 9, 8])
        self.assertEqual((host.counts["left"], host.counts["invalidated"]), (1, 1))
        host = host_with(guest, "check_entry", "leave_self")
        self.assertEqual(prints(host, ["g0", "d", "d", "g1", "g0"]), [1, 9, 2])

    def test_links_are_cut_by_a_check(self):
        guest = guest_of(*LOOP, starts=(0, 0), writes=((0, 1, 9),))
        for rules, wanted in (((), [(0, (1, 1), 0)]), (("cut_links",), [])):
            host = host_with(guest, "check_entry", *rules)
            host.run(["g0"] * 3 + ["d", "g1"])
            self.assertEqual(host.store.all_links(), wanted)

    def test_a_prepared_block(self):
        guest = guest_of(*LOOP, writes=((0, 1, 9),))
        for rules, number, checked in (((), 5, 0), (("check_entry",), 9, 4)):
            host = host_with(guest, *rules)
            host.do("p0")
            self.assertEqual(prints(host, ["d", "g0"]), [number])
            self.assertEqual((host.counts["checked"], host.counts["invalidated"]), (checked, 0))
        host = host_with(guest, "check_entry")
        host.do("p0")
        block = host.prepared[0]
        host.do("g0")
        self.assertIs(host.store.slots[0], block)
        self.assertEqual(host.counts["checked"], 4)

    def test_a_prepared_block_is_checked_without_a_slot_too(self):
        host = host_with(guest_of(*LOOP), "check_entry", slots=0)
        self.assertEqual(prints(host, ["p0", "g0"]), [5])
        self.assertEqual((host.counts["checked"], host.counts["plain"]), (4, 1))

    def test_no_check_of_a_new_block(self):
        host = host_with(guest_of(*LOOP), "check_entry")
        host.do("g0")
        self.assertEqual(host.counts["checked"], 0)


class TestDeferredValues(Checks):
    def inspected(self, host, p=0):
        event = host.do(f"i{p}")[0]
        return (event[2], event[3], event[4])

    def test_map_inspect(self):
        guest = guest_of(("set", (0, 5)), ("compare", (2, 3)), ("print", (1,)), ("print", (2,)))
        for rules, wanted in (((), (6, (0, 0, 0, 0), (0, 0))), (("map_inspect",), (6, (5, 0, 0, 0), (1, 0))),
                              (("eager",), (6, (5, 0, 0, 0), (1, 0)))):
            host = host_with(guest, KEEP, *rules)
            host.run(["g0"] * 2)
            before = host_state(host)[:6]
            self.assertEqual(self.inspected(host), wanted)
            self.assertEqual(host_state(host)[:6], before)

    def test_map_inspect_of_flags_and_of_the_right_processor(self):
        guest = guest_of(("compare", (0, 1)), ("set", (2, 3)), ("print", (1,)), ("print", (2,)), starts=(0, 0))
        host = host_with(guest, KEEP, "map_inspect")
        host.run(["g0", "g0", "g1"])
        self.assertEqual(self.inspected(host, 0), (6, (0, 0, 3, 0), (1, 0)))
        self.assertEqual(self.inspected(host, 1), (3, (0, 0, 0, 0), (1, 0)))

    def test_map_inspect_out_of_a_block(self):
        guest = guest_of(("set", (0, 5)), ("jump", (9,)))
        for rules, wanted in (((), 0), (("flush_exit",), 5)):
            host = host_with(guest, "map_inspect", *rules)
            host.run(["g0"] * 2)
            self.assertEqual(self.inspected(host)[1], (wanted, 0, 0, 0))

    def test_faults(self):
        guest = guest_of(("set", (0, 5)), ("load", (1, 32)), ("print", (1,)), pages=((0, 7), (1, 7), (2, 3), (3, 7)))
        for rule, wanted in ((KEEP, 0), ("map_fault", 5), ("flush_fault", 5), ("eager", 5)):
            host = host_with(guest, rule)
            self.assertEqual(host.run(["g0"] * 2), [("trap", 0, "read", 3, (wanted, 0, 0, 0), (0, 0))])
            self.assertEqual(host.machine.processors[0].regs[0], wanted)

    def test_flush_source(self):
        guest = guest_of(("set", (3, 1)), ("move", (2, 1)), ("add", (1, 3)), ("show", (2,)))
        for rules, wanted in (((), [1]), (("flush_source",), [0])):
            self.assertEqual(prints(host_with(guest, *rules), ["g0"] * 4), wanted)

    def test_keep_dropped(self):
        guest = guest_of(("set", (0, 5)), ("set", (0, 6)), ("halt", ()))
        for rules, wanted in (((), 0), ((KEEP,), 5)):
            host = host_with(guest, "map_inspect", *rules)
            host.do("g0")
            self.assertEqual(self.inspected(host)[1], (wanted, 0, 0, 0))


class TestBufferedStores(Checks):
    RACE = two_programs([("set", (0, 7)), ("store", (49, 0)), ("load", (1, 49)), ("show", (1,)), ("jump", (20,))],
                        [("load", (2, 49)), ("show", (2,)), ("jump", (32,))])

    def test_prompt_store(self):
        schedule = ["g0", "g0", "g1", "g1", "g1", "g0", "g0", "g0", "g1", "g1"]
        self.assertEqual(prints(host_with(self.RACE), schedule), [0, 7, 7])
        self.assertEqual(prints(host_with(self.RACE, "prompt_store"), schedule), [7, 7, 7])

    def test_where_they_are_written(self):
        host = host_with(self.RACE, longest=3)
        host.run(["g0", "g0"])
        self.assertEqual((host.buffers, host.machine.frames[3][1]), ([[(3, 1, 7, 3)], []], 0))
        host.do("g0")
        self.assertEqual((host.buffers, host.machine.frames[3][1], host.seats[0]), ([[], []], 7, None))

    def test_at_a_trap(self):
        host = host_with(guest_of(("set", (0, 7)), ("store", (49, 0)), ("call", ())))
        host.run(["g0", "g0"])
        self.assertEqual(host.machine.frames[3][1], 0)
        host.do("g0")
        self.assertEqual((host.buffers[0], host.machine.frames[3][1]), ([], 7))

    def test_they_are_noticed_with_their_writer(self):
        # Processor 0 writes into the block in which both are; it is out itself when the write is noticed.
        guest = guest_of(("set", (0, 7)), ("store", (7, 0)), ("print", (1,)), ("print", (2,)), starts=(0, 0))
        host = host_with(guest, "invalidate_store", "leave_other", "leave_self", longest=4)
        host.run(["g1", "g1", "g0", "g0", "g0"])
        self.assertEqual((host.seats, host.counts["invalidated"], host.counts["left"]), ([(0, 3), (0, 2)], 0, 0))
        host.do("g0")
        self.assertEqual((host.seats, host.counts["invalidated"], host.counts["left"]), ([None, None], 1, 1))
        self.assertEqual((host.machine.frames[0][7], host.buffers), (7, [[], [(0, 7, 7, 0)]]))
        self.assertEqual(host.came[0], (0, 1, (3, 0)))

    def test_both_processors(self):
        guest = guest_of(("store", (49, 0)), ("load", (1, 49)), ("show", (1,)), ("halt", ()), starts=(0, 0))
        host = host_with(guest)
        for p, processor in enumerate(host.machine.processors):
            processor.regs[0] = 7 + p
        self.assertEqual(prints(host, ["g0", "g1", "g1", "g1", "g0", "g0"]), [8, 7])
        host.run(["g0"])
        self.assertEqual(host.machine.frames[3][1], 7)
        host.run(["g1"])
        self.assertEqual(host.machine.frames[3][1], 8)


class TestPolls(Checks):
    def takes(self, guest, count, *rules, slots=4):
        """The number of go actions until an interrupt is taken that is raised behind `count` of them."""
        host = host_with(guest, *rules, slots=slots)
        host.run(["g0"] * count + ["r0"])
        for number in range(12):
            polled = host.counts["polled"]
            host.do("g0")
            if host.matching[-1] == "t0":
                self.assertEqual((host.counts["polled"], host.seats[0], host.came[0]), (polled + 1, None, None))
                return number
        return None

    def test_a_loop(self):
        guest = guest_of(("enable", ()), ("print", (1,)), ("jump", (1,)))
        for rules, wanted in (((), None), (("poll_entry",), 1), (("poll_backward",), 1), (("no_links",), 1)):
            self.assertEqual(self.takes(guest, 8, *rules), wanted)

    def test_where_the_link_leads(self):
        # The blocks stand at 1, 10 and 30; the links lead forward, forward and backward.
        guest = build_guest([(0, [("enable", ()), ("jump", (10,))]), (10, [("jump", (30,))]), (30, [("jump", (1,))])])
        for count, every, backward in ((7, 0, 0), (8, 0, 2), (9, 0, 1)):
            self.assertEqual(self.takes(guest, count, "poll_entry"), every)
            self.assertEqual(self.takes(guest, count, "poll_backward"), backward)
            self.assertIsNone(self.takes(guest, count))

    def test_the_entry_of_the_block_and_not_the_jump_counts(self):
        # The block at 10 jumps to 12, behind its entry, though ahead of the jump.
        guest = build_guest([(0, [("enable", ()), ("jump", (10,))]), (10, [("print", (1,)), ("print", (2,)),
                                                                          ("jump", (12,))])])
        self.assertEqual(self.takes(guest, 12, "poll_backward"), 1)
        host = host_with(guest, "poll_backward")
        host.run(["g0"] * 5 + ["r0"])
        host.store.set_link(host.came[0], 3)
        host.store.put(make_block(host.machine, 12, 1, Policy.empty(), 8), 3, Policy.empty())
        self.assertEqual(host.run(["g0"]), [("print", 0, 2)])
        self.assertEqual(host.matching[-1], "g0")

    def test_polls_are_counted(self):
        guest = guest_of(("print", (1,)), ("jump", (0,)))
        for rules, wanted in (((), 2), (("poll_entry",), 4), (("poll_backward",), 4)):
            host = host_with(guest, *rules)
            host.run(["g0"] * 8)
            self.assertEqual((host.counts["polled"], host.counts["followed"]), (wanted, 2))

    def test_an_interrupt_at_a_link(self):
        guest = guest_of(("enable", ()), ("print", (1,)), ("jump", (1,)))
        host = host_with(guest, "poll_entry", "check_entry")
        host.run(["g0"] * 5 + ["r0"])
        links, checked = host.store.all_links(), host.counts["checked"]
        self.assertEqual(host.run(["g0"]), [("trap", 0, "interrupt", 1, (0, 0, 0, 0), (0, 0))])
        self.assertEqual((host.store.all_links(), host.counts["checked"], host.came[0]), (links, checked, None))


if __name__ == "__main__":
    unittest.main()
