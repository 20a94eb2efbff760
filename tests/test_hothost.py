"""Points 115, 116, 118, 119 and 120."""

import unittest
from itertools import product
from random import Random

from checks import Checks, guest_of_texts, host_state
from guestlives.against import agrees
from guestlives.errors import ActionError, SettingError
from guestlives.guest import Guest
from guestlives.host import Host
from guestlives.hothost import HotHost
from guestlives.policy import RULES, Policy
from runs import ALL, ALONE, any_guest, any_instruction, any_schedule

COUNTS = ("placed", "found", "followed", "checked", "invalidated", "left", "polled", "plain", "joined")
PLAIN = "eager prompt_store"
LINKED = f"{PLAIN} cut_links clear_links"
TWO = ((0, "print 1; jump 10"), (10, "print 2; jump 0"))
LOOP = ((0, "print 1; jump 0"),)


def hot_host(programs, words, **named):
    settings = {name: named.pop(name) for name in ("slots", "longest", "hot") if name in named}
    return HotHost(guest_of_texts(programs, **named), Policy(words.split()), **settings)


def told(host):
    """For each slot the entry, the number of parts and the validity of its block."""
    return [None if block is None else (block.entry, len(block.parts), block.valid) for block in host.store.slots]


class TestSettings(Checks):
    def test_counts_and_attributes(self):
        host = HotHost(Guest.blank(), Policy.empty())
        self.assertIsInstance(host, Host)
        self.same_kind((host.hot, host.longest, len(host.store.slots)), (2, 4, 4))
        self.same_kind(HotHost.COUNTS, COUNTS)
        self.same_kind(list(host.counts.items()), [(name, 0) for name in COUNTS])
        self.same_kind(Host.COUNTS, COUNTS[:8])
        for name in ("machine", "policy", "store", "events", "schedule", "matching", "seats", "came", "prepared",
                     "buffers"):
            self.assertTrue(hasattr(host, name), name)
        for hot in (1, 8):
            self.assertEqual(HotHost(Guest.blank(), Policy.empty(), hot=hot).hot, hot)
        with self.assertRaises(TypeError):
            HotHost(Guest.blank(), Policy.empty(), 4, 4, 2)

    def test_errors(self):
        guest, policy = Guest.blank(), Policy.full()
        for hot in (-1, 0, 9):
            self.refuses(SettingError, {"name": "hot"}, HotHost, guest, policy, hot=hot)
            self.refuses(SettingError, {"name": "slots"}, HotHost, guest, policy, slots=9, longest=0, hot=hot)
            self.refuses(SettingError, {"name": "longest"}, HotHost, guest, policy, slots=0, longest=9, hot=hot)
            self.refuses(SettingError, {"name": "hot"}, HotHost, guest, policy, slots=0, longest=8, hot=hot)
        host = HotHost(guest, policy)
        for action in ("t0", "t1", "x"):
            self.refuses(ActionError, {"action": action}, host.do, action)
            self.refuses(ActionError, {"action": action}, host.run, ["g0", action])
        self.assertEqual(host.schedule, [])


class TestUses(Checks):
    def test_each_use_counts(self):
        host = hot_host(TWO, "single eager", hot=1)
        host.run(["g0"] * 12)
        # With `single` nothing is joined, but the uses count.
        self.assertEqual([block.counts for block in host.store.slots],
                         [{(0, 0): 2}, {(0, 1): 2}, {(0, 0): 2}, {(0, 1): 1}])
        self.assertEqual((host.counts["joined"], host.counts["followed"]), (0, 7))

    def test_a_host_counts_no_uses(self):
        host = Host(guest_of_texts(TWO), Policy(["eager"]))
        host.run(["g0"] * 40)
        self.assertEqual([block.counts for block in host.store.slots if block], [{}, {}])

    def test_ahead_of_the_poll(self):
        programs = ((0, "enable; jump 1"), (40, "halt"))
        for hot, joined in ((3, 0), (2, 1)):
            host = hot_host(programs, f"{LINKED} poll_entry", hot=hot, handlers=(40, 40))
            host.run(["g0"] * 4)
            self.assertEqual(host.store.slots[1].counts, {(0, 1): 1})
            self.assertEqual(host.do("r0") + host.do("g0"), [("trap", 0, "interrupt", 1, (0, 0, 0, 0), (0, 0))])
            self.assertEqual(host.store.slots[1].counts, {(0, 1): 2})
            self.assertEqual((host.counts["joined"], host.matching[-1]), (joined, "t0"))

    def test_ahead_of_the_check(self):
        programs = ((0, "set r0 2; jump 5"), (5, "print 1; jump 5"), (48, "store 6 r1; halt"))
        host = hot_host(programs, f"{PLAIN} check_entry", hot=8, starts=(0, 48), longest=1)
        host.run(["g0"] * 6 + ["g1"] * 2)
        self.assertEqual(host.store.link_of(host.came[0]), 2)
        slot, _, way = host.came[0]
        before = host.store.slots[slot].counts.get(way, 0)
        host.do("g0")
        # The check fails, but the use counts, and the link is made again to the new block.
        self.assertEqual(host.store.slots[slot].counts[way], before + 1)

    def test_only_by_link(self):
        for words, wanted in ((PLAIN, {(1, 1): 3}), (f"{PLAIN} no_links", {})):
            host = hot_host(LOOP, words, hot=8)
            host.run(["g0"] * 10)
            self.assertEqual(host.store.slots[0].counts, wanted)

    def test_not_beside_a_prepared_block(self):
        host = hot_host(TWO, PLAIN, hot=1)
        host.run(["g0", "g0", "p0"])
        self.assertIsNotNone(host.prepared[0])
        host.store.slots[0].links[(1, 1)] = 0
        host.run(["g0"])
        self.assertEqual(host.store.slots[0].counts, {})


class TestJoin(Checks):
    def test_two_blocks(self):
        host = hot_host(TWO, LINKED)
        host.run(["g0"] * 10)
        self.assertEqual(told(host), [(0, 2, True), (10, 2, True), None, None])
        self.assertEqual((host.store.slots[0].counts, host.came[0]), ({(1, 1): 1}, (0, 1, (1, 1))))
        self.same_kind(host.do("g0"), [("print", 0, 2)])
        # The second use joins; the processor goes on by lookup, and finds the second block.
        self.assertEqual(told(host), [(0, 2, False), (10, 2, True), (0, 4, True), None])
        self.same_kind((host.seats[0], host.came[0]), ((1, 1), None))
        self.assertEqual(host.store.slots[0].counts, {(1, 1): 2})
        self.assertEqual(host.store.slots[2].serial, 3)
        self.same_kind(host.counts, {"placed": 2, "found": 2, "followed": 2, "checked": 0, "invalidated": 1, "left": 0,
                                     "polled": 4, "plain": 0, "joined": 1})
        # Behind the second block the joined one is found: the link to the first one has been cut.
        host.run(["g0"] * 2)
        self.assertEqual((host.seats[0], host.store.all_links()), ((2, 1), [(0, (1, 1), 1), (1, (1, 1), 2)]))
        self.assertTrue(agrees(host))

    def test_a_jump_in_the_midst_goes_on(self):
        host = hot_host(TWO, LINKED)
        host.run(["g0"] * 13)
        seats = []
        for _ in range(4):
            host.do("g0")
            seats.append((host.seats[0], host.came[0]))
        self.assertEqual(seats, [((2, 2), None), ((2, 3), None), (None, (2, 3, (3, 1))), ((2, 1), None)])
        self.assertEqual(host.counts["followed"], 2)

    def test_an_exit_in_the_midst(self):
        # The jump by the flag zero jumps three times and then no more.
        programs = ((0, "set r1 3; set r2 1; compare r3 r3; jumpz 20"), (20, "add r0 r2; compare r1 r0; jumpl 40"),
                    (28, "jump 20"), (40, "halt"))
        for hot in range(1, 5):
            host = hot_host(programs, LINKED, hot=hot, longest=8)
            host.run(["g0"] * 40)
            self.assertTrue(agrees(host), hot)
            self.assertTrue(host.machine.processors[0].halted)
            self.assertEqual(host.counts["joined"], 1 if hot < 3 else 0)

    def test_hot(self):
        for hot in range(1, 9):
            host = hot_host(LOOP, LINKED, hot=hot)
            host.run(["g0"] * (4 + 2 * (hot - 1)))
            self.assertEqual((host.counts["joined"], told(host)[:2]), (0, [(0, 2, True), None]))
            host.do("g0")
            # The block has been joined with itself.
            self.assertEqual((host.counts["joined"], told(host)[:2]), (1, [(0, 2, False), (0, 4, True)]))
            self.assertEqual(host.store.slots[0].counts, {(1, 1): hot})
            self.assertEqual(host.seats[0], (1, 1))

    def test_joined_blocks_are_joined_again(self):
        host = hot_host(LOOP, LINKED, hot=1, longest=8)
        host.run(["g0"] * 63)
        self.assertEqual(told(host), [(0, 2, False), (0, 4, False), (0, 8, False), (0, 16, True)])
        self.assertEqual((host.counts["joined"], host.counts["placed"], host.counts["invalidated"]), (3, 1, 3))
        # A block of twice `longest` parts is not joined: the new one would not have more parts.
        self.assertEqual(host.store.slots[3].counts, {(15, 1): 1})
        host = hot_host(LOOP, LINKED, hot=1, longest=3)
        host.run(["g0"] * 60)
        self.assertEqual(told(host), [(0, 2, False), (0, 4, False), (0, 6, True), None])

    def test_at_most_twice_as_many_parts(self):
        for longest in range(1, 9):
            host = hot_host(((0, "print 1; print 2; print 3; jump 0"),), LINKED, hot=1, longest=longest)
            host.run(["g0"] * 200)
            self.assertGreater(host.counts["joined"], 0)
            self.assertEqual(max([len(block.parts) for block in host.store.slots if block]), 2 * longest)

    def test_the_first_use_that_is_equal_alone(self):
        host = hot_host(LOOP, f"{LINKED} single", hot=2)
        host.run(["g0"] * 20)
        host.policy = Policy(LINKED.split())
        host.run(["g0"] * 20)
        self.assertEqual(host.counts["joined"], 0)
        self.assertGreater(host.store.slots[0].counts[(0, 0)], 10)

    def test_the_level_of_the_processor(self):
        host = hot_host(((0, "lower; jump 1"),), LINKED, hot=2)
        host.run(["g0"] * 10)
        self.assertEqual([block.level for block in host.store.slots if block], [1, 0, 0])
        # By a wrong policy a block of the other level is entered; the level of the processor counts.
        host = hot_host(((0, "print 1; jump 0"),), LINKED, hot=2)
        host.run(["g0"] * 6)
        host.machine.processors[0].level = 0
        host.do("g0")
        self.assertEqual([block.level for block in host.store.slots if block], [1, 0])

    def test_small_steps_of_the_joined_block(self):
        programs = ((0, "set r0 5; jump 10"), (10, "show r0; jump 0"))
        host = hot_host(programs, "prompt_store flush_exit flush_source keep_dropped map_inspect map_fault", hot=1)
        host.run(["g0"] * 20)
        self.assertGreater(host.counts["joined"], 0)
        self.assertTrue(agrees(host))


class TestNothingIsJoined(Checks):
    def check_refused(self, host, action="g0"):
        """The action uses a link for the last time ahead of hot, and nothing is joined."""
        before = host.store.key()[1]
        counts = dict(host.counts)
        host.do(action)
        self.assertEqual((host.counts["joined"], host.store.serial), (counts["joined"], before))
        self.assertEqual(host.counts["invalidated"], counts["invalidated"])
        # The processor goes on by link.
        self.assertEqual(host.counts["followed"], counts["followed"] + 1)

    def test_with_single(self):
        host = hot_host(LOOP, f"{LINKED} single", hot=1)
        host.run(["g0"] * 4)
        self.check_refused(host)

    def test_the_first_block_is_not_valid(self):
        host = hot_host(TWO, PLAIN)
        host.run(["g0"] * 10)
        host.store.slots[0].valid = False
        self.check_refused(host)

    def test_the_second_block_is_not_valid(self):
        host = hot_host(TWO, PLAIN)
        host.run(["g0"] * 10)
        host.store.slots[1].valid = False
        self.check_refused(host)

    def test_no_joined_block(self):
        host = hot_host(TWO, PLAIN)
        host.run(["g0"] * 10)
        host.machine.pages[0] = (0, 6)
        self.check_refused(host)

    def test_not_more_parts_than_the_first_block(self):
        programs = ((0, "print 1; jump 16"), (16, "print 2; jump 0"))
        host = hot_host(programs, f"{PLAIN} stop_page")
        host.run(["g0"] * 10)
        self.check_refused(host)
        # The first instruction of the second block leads elsewhere now, and the path ends behind it.
        host = hot_host(((0, "print 1; print 3; jump 10"), (10, "print 2; jump 0")), PLAIN)
        host.run(["g0"] * 13)
        self.assertEqual(host.came[0], (0, 1, (2, 1)))
        host.machine.frames[0][1 + 4] = 12
        self.check_refused(host)

    def test_exactly_as_many_parts_as_the_first_block(self):
        # An exit by the first part of the first block: the path is one part and the two of the second block.
        programs = ((0, "jumpl 10; print 1; jump 0"), (10, "print 2; jump 0"))
        for cells, joined in (((), 1), (((12, 0),), 1), (((10, 200),), 0)):
            host = hot_host(programs, PLAIN, hot=1)
            host.machine.processors[0].less = 1
            host.run(["g0"] * 4)
            self.assertEqual((len(host.store.slots[0].parts), host.came[0]), (1, (0, 1, (0, 1))))
            for offset, number in cells:
                host.machine.frames[0][offset] = number
            host.do("g0")
            self.assertEqual(host.counts["joined"], joined)

    def test_no_slot(self):
        # Processor 1 stands in the only slot, which is held for it.
        for words, joined in ((f"{LINKED} hold_slot", 0), (LINKED, 1)):
            host = hot_host(LOOP, words, hot=2, slots=1, starts=(0, 0))
            host.run(["g0"] * 6 + ["g1"])
            self.assertEqual(host.seats, [None, (0, 1)])
            host.do("g0")
            self.assertEqual(host.counts["joined"], joined)
            self.assertEqual(host.seats[1], (0, 1))
            self.assertEqual(told(host), [(0, 4, True) if joined else (0, 2, True)])


class TestTheSlot(Checks):
    def test_the_slot_of_the_first_block_where_all_are_full(self):
        # The candidate is chosen behind the invalidation: the first block's own slot, not the least serial.
        host = hot_host(((0, "jump 10"), (10, "print 1; jump 20"), (20, "print 2; jump 10")), LINKED, slots=3, hot=2)
        host.run(["g0"] * 9)
        self.assertEqual(told(host), [(0, 1, True), (10, 2, True), (20, 2, True)])
        host.run(["g0"] * 2)
        self.assertEqual(host.came[0], (1, 2, (1, 1)))
        host.do("g0")
        self.assertEqual(told(host), [(0, 1, True), (10, 4, True), (20, 2, True)])
        self.assertEqual([block.serial for block in host.store.slots], [1, 4, 3])
        self.assertEqual(host.counts["invalidated"], 1)

    def test_a_slot_that_is_held(self):
        # With `hold_slot` the joined block goes into the slot of the second one, which is then made again there.
        for words, entries, serials in ((f"{LINKED} hold_slot", [(0, 2, False), (10, 2, True)], [1, 4]),
                                        (LINKED, [(0, 4, True), (10, 2, True)], [3, 2])):
            host = hot_host(TWO, words, slots=2, starts=(0, 0))
            host.run(["g0"] * 10 + ["g1", "g0"])
            self.assertEqual((host.counts["joined"], host.seats[1]), (1, (0, 1)))
            self.assertEqual(told(host), entries)
            self.assertEqual([block.serial for block in host.store.slots], serials)

    def test_no_processor_leaves(self):
        for words in (f"{LINKED} leave_other leave_self", LINKED):
            host = hot_host(TWO, words, starts=(0, 0))
            host.run(["g0"] * 10 + ["g1"])
            self.assertEqual(host.seats[1], (0, 1))
            host.do("g0")
            self.assertEqual((told(host)[0], host.seats[1], host.counts["left"]), ((0, 2, False), (0, 1), 0))
            self.assertEqual((host.counts["invalidated"], host.counts["joined"]), (1, 1))

    def test_links_to_the_first_block(self):
        for words, wanted in ((LINKED, [(0, (1, 1), 1)]), (PLAIN, [(0, (1, 1), 1), (1, (1, 1), 0)])):
            host = hot_host(TWO, words)
            host.run(["g0"] * 11)
            self.assertEqual(host.store.all_links(), wanted)


def looping_guest(random, other, device):
    """A guest that jumps more often than others."""
    guest = any_guest(random, other, device)
    cells = []
    while len(cells) < 64:
        choice = random.randrange(4)
        if choice == 0:
            cells.extend([random.choice((9, 10, 11)), random.randrange(64)])
        else:
            cells.extend([1, random.randrange(10)] if choice == 1 else any_instruction(random))
    frames = [cells[16 * frame:16 * frame + 16] for frame in range(4)]
    return Guest(frames, guest.pages, guest.starts, guest.handlers, guest.writes)


class TestRightPolicies(Checks):
    def test_all_settings(self):
        random = Random(23)
        joined = 0
        for words in ALONE + (" ".join([name for name in RULES if name not in ("single", "no_links")]),):
            policy = Policy(words.split())
            for slots, longest in product(range(9), range(1, 9)):
                host = HotHost(looping_guest(random, False, False), policy, slots=slots, longest=longest,
                               hot=random.randrange(1, 4))
                host.run(any_schedule(random, False, False, 100))
                self.assertTrue(agrees(host), (words, slots, longest))
                joined = joined + host.counts["joined"]
        self.assertGreater(joined, 100)

    def test_both_processors_and_the_device(self):
        random = Random(24)
        joined = 0
        for words, other, device in product(ALL, (False, True), (False, True)):
            for _ in range(50):
                host = HotHost(looping_guest(random, other, device), Policy(words.split()), slots=random.randrange(9),
                               longest=random.randrange(1, 9), hot=random.choice((1, 2, 8)))
                host.run(any_schedule(random, other, device, 120))
                self.assertTrue(agrees(host), (words, other, device))
                joined = joined + host.counts["joined"]
        self.assertGreater(joined, 100)

    def test_the_settings_make_no_difference_without_raises(self):
        random = Random(25)
        for words in ALL * 5:
            policy = Policy(words.split())
            guest = looping_guest(random, True, True)
            schedule = [action for action in any_schedule(random, True, True, 120) if action[0] != "r"]
            host = Host(guest, policy)
            events = host.run(schedule)
            for slots, longest, hot in ((0, 1, 1), (1, 8, 1), (8, 8, 2), (3, 4, 3), (8, 2, 8)):
                other = HotHost(guest, policy, slots=slots, longest=longest, hot=hot)
                self.assertEqual(other.run(schedule), events)
                self.assertEqual(other.view().key(), host.view().key())

    def test_as_a_host_where_nothing_is_hot(self):
        random = Random(26)
        for words in ("", PLAIN, LINKED, "single eager", "check_entry flush_exit"):
            guest = any_guest(random, True, True)
            schedule = any_schedule(random, True, True, 60)
            host = Host(guest, Policy(words.split()), slots=2)
            other = HotHost(guest, Policy(words.split()), slots=2, hot=8)
            self.assertEqual(other.run(schedule), host.run(schedule))
            self.assertEqual(other.counts["joined"], 0)
            del other.counts["joined"]
            for block in other.store.slots + other.prepared:
                if block is not None:
                    block.counts.clear()
            self.assertEqual(host_state(other), host_state(host))


if __name__ == "__main__":
    unittest.main()
