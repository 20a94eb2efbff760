"""Points 58 to 63."""

import unittest

from checks import Checks
from guestlives.errors import SettingError
from guestlives.parts import Block, Part
from guestlives.policy import RULES, Policy
from guestlives.store import BlockStore

NOTHING = Policy.empty()


def block_at(entry, level=1):
    return Block(entry, level, [Part(entry, "print", (1,), 2, ((entry // 16, entry % 16, 0, 1),))])


def store_of(count, *entries):
    """A store with blocks in its first slots."""
    store = BlockStore(count)
    for slot, entry in enumerate(entries):
        store.put(block_at(entry), slot, NOTHING)
    return store


def linked_store(count, *links):
    """A store with a block in each slot and links (slot, exit, target)."""
    store = store_of(count, *range(count))
    for slot, way, target in links:
        store.slots[slot].links[way] = target
    return store


class Stores(Checks):
    def stays(self, store, call, *args):
        """The call leaves the store as it is; returns its result."""
        before = store.key()
        result = call(*args)
        self.assertEqual(store.key(), before)
        return result


class TestSlots(Stores):
    def test_a_new_store(self):
        for count in range(9):
            store = BlockStore(count)
            self.same_kind((store.slots, store.serial), ([None] * count, 0))
            self.same_kind(store.key(), ((None,) * count, 0))
        for count in (-1, 9, 100):
            self.refuses(SettingError, {"name": "slots"}, BlockStore, count)

    def test_put(self):
        store = BlockStore(3)
        first, second, third = block_at(1), block_at(2), block_at(3)
        self.assertIsNone(store.put(first, 2, NOTHING))
        self.assertEqual((store.slots, store.serial, first.serial), ([None, None, first], 1, 1))
        store.put(second, 0, NOTHING)
        store.put(third, 2, NOTHING)
        self.assertEqual((store.slots, store.serial), ([second, None, third], 3))
        self.assertEqual((first.serial, second.serial, third.serial, first.valid), (1, 2, 3, True))
        self.same_kind(store.key(), ((second.key(), None, third.key()), 3))

    def test_links_to_a_slot_that_is_used_again(self):
        links = ((0, (0, 0), 1), (0, (1, 0), 2), (1, (0, 0), 1), (1, (1, 0), 0), (2, (0, 0), 1))
        store = linked_store(3, *links)
        store.slots[2].valid = False
        old = store.slots[1]
        store.put(block_at(9), 1, Policy(["clear_links"]))
        self.assertEqual(store.all_links(), [(0, (1, 0), 2)])
        self.assertEqual(old.links, {(1, 0): 0})
        store = linked_store(3, *links)
        old = store.slots[1]
        store.put(block_at(9), 1, Policy(RULES) - Policy(["clear_links"]))
        self.assertEqual(store.all_links(), [(0, (0, 0), 1), (0, (1, 0), 2), (2, (0, 0), 1)])
        self.assertEqual(old.links, {(0, 0): 1, (1, 0): 0})
        self.assertEqual(old.serial, 2)

    def test_wrong_slots(self):
        for count in (0, 2):
            store = store_of(count, *range(count))
            for slot in (-1, count, count + 5):
                for policy in (NOTHING, Policy.full()):
                    block = block_at(9)
                    told = {"name": "slot"}
                    self.stays(store, self.refuses, SettingError, told, store.put, block, slot, policy)
                    self.assertEqual(block.serial, 0)
                    self.stays(store, self.refuses, SettingError, told, store.invalidate, slot, policy)
                self.stays(store, self.refuses, SettingError, {"name": "slot"}, store.set_link, None, slot)
                if count > 0:
                    came = (0, 1, (0, 0))
                    self.stays(store, self.refuses, SettingError, {"name": "slot"}, store.set_link, came, slot)


class TestLookup(Stores):
    def lookup(self, store, entry, level, *rules):
        return self.stays(store, store.lookup, entry, level, Policy(rules))

    def test_the_lowest_slot(self):
        store = BlockStore(4)
        for slot, entry in ((3, 7), (1, 7), (2, 8)):
            store.put(block_at(entry), slot, NOTHING)
        self.same_kind([self.lookup(store, entry, 1) for entry in (7, 8, 9)], [1, 2, None])
        store.slots[1].valid = False
        self.assertEqual(self.lookup(store, 7, 1), 3)
        store.slots[3].valid = False
        self.assertIsNone(self.lookup(store, 7, 1))

    def test_levels(self):
        store = BlockStore(2)
        store.put(block_at(7, 0), 0, NOTHING)
        store.put(block_at(7, 1), 1, NOTHING)
        for level in (0, 1):
            self.assertEqual(self.lookup(store, 7, level), 0)
            self.assertEqual(self.lookup(store, 7, level, "key_level"), level)
        store.slots[0].valid = False
        self.assertEqual(self.lookup(store, 7, 0), 1)
        self.assertIsNone(self.lookup(store, 7, 0, "key_level"))

    def test_no_slots(self):
        self.assertIsNone(self.lookup(BlockStore(0), 0, 1))


class TestCandidate(Stores):
    def candidate(self, store, seats=(None, None), rules=()):
        return self.stays(store, store.candidate, list(seats), Policy(rules))

    def test_the_lowest_empty_slot(self):
        store = BlockStore(4)
        store.put(block_at(1), 0, NOTHING)
        store.put(block_at(1), 2, NOTHING)
        store.slots[0].valid = False
        self.assertEqual(self.candidate(store), 1)
        self.assertEqual(self.candidate(store, ((1, 0), None), ("hold_slot",)), 3)
        self.assertEqual(self.candidate(store, ((1, 0), (3, 2)), ("hold_slot",)), 0)
        self.assertEqual(self.candidate(store, ((1, 0), (3, 2))), 1)

    def test_the_invalid_block_of_the_least_serial(self):
        store = store_of(4, 1, 2, 3, 4)
        store.put(block_at(5), 1, NOTHING)
        store.slots[1].valid = False
        self.assertEqual(self.candidate(store), 1)
        store.slots[2].valid = False
        self.assertEqual(self.candidate(store), 2)
        self.assertEqual(self.candidate(store, (None, (2, 1)), ("hold_slot",)), 1)
        self.assertEqual(self.candidate(store, (None, (2, 1)), RULES), 1)
        self.assertEqual(self.candidate(store, (None, (2, 1)), Policy(RULES) - Policy(["hold_slot"])), 2)

    def test_the_block_of_the_least_serial(self):
        store = store_of(3, 1, 2, 3)
        store.put(block_at(5), 0, NOTHING)
        self.assertEqual(self.candidate(store), 1)
        self.assertEqual(self.candidate(store, ((1, 0), None), ("hold_slot",)), 2)
        self.assertEqual(self.candidate(store, ((1, 0), (2, 0)), ("hold_slot",)), 0)
        store.slots[1].valid = False
        self.assertEqual(self.candidate(store, ((1, 0), None), ("hold_slot",)), 2)

    def test_no_candidates(self):
        self.assertIsNone(self.candidate(BlockStore(0)))
        store = store_of(2, 1, 2)
        self.assertIsNone(self.candidate(store, ((1, 0), (0, 0)), ("hold_slot",)))
        self.assertEqual(self.candidate(store, ((1, 0), (1, 3)), ("hold_slot",)), 0)
        self.assertEqual(self.candidate(store, ((1, 0), (0, 0))), 0)
        store = BlockStore(1)
        self.assertIsNone(self.candidate(store, ((0, 0), None), ("hold_slot",)))


class TestCame(Stores):
    def test_holds(self):
        store = store_of(3, 1, 2)
        for came, wanted in (
            (None, False), ((0, 1, (0, 0)), True), ((1, 2, (9, 1)), True), ((0, 2, (0, 0)), False),
            ((1, 1, (0, 0)), False), ((2, 0, (0, 0)), False), ((2, 3, (0, 0)), False), ((3, 1, (0, 0)), False),
            ((-1, 2, (0, 0)), False), ((-2, 2, (0, 0)), False),
        ):
            self.assertIs(self.stays(store, store.holds, came), wanted)
        store.slots[0].valid = False
        self.assertIs(store.holds((0, 1, (0, 0))), True)
        store.put(block_at(1), 0, NOTHING)
        self.assertIs(store.holds((0, 1, (0, 0))), False)
        self.assertIs(BlockStore(0).holds((0, 0, (0, 0))), False)

    def test_link_of(self):
        store = linked_store(2, (0, (0, 0), 1), (0, (1, 1), 0))
        for came, wanted in (
            ((0, 1, (0, 0)), 1), ((0, 1, (1, 1)), 0), ((0, 1, (1, 0)), None), ((1, 2, (0, 0)), None), (None, None),
            ((0, 2, (0, 0)), None), ((5, 1, (0, 0)), None),
        ):
            self.same_kind(self.stays(store, store.link_of, came), wanted)
        store.slots[0].valid = False
        self.assertEqual(store.link_of((0, 1, (0, 0))), 1)

    def test_set_link(self):
        store = store_of(3, 1, 2)
        self.assertIsNone(store.set_link((0, 1, (0, 0)), 1))
        store.set_link((0, 1, (1, 1)), 0)
        self.assertEqual(store.slots[0].links, {(0, 0): 1, (1, 1): 0})
        store.set_link((0, 1, (0, 0)), 2)
        self.assertEqual((store.slots[0].links, store.slots[1].links), ({(0, 0): 2, (1, 1): 0}, {}))
        for came in (None, (0, 2, (0, 0)), (2, 1, (0, 0)), (7, 1, (0, 0))):
            self.stays(store, store.set_link, came, 1)
        store.slots[0].valid = False
        self.stays(store, store.set_link, (0, 1, (0, 0)), 1)

    def test_drop_link(self):
        store = linked_store(2, (0, (0, 0), 1), (0, (1, 1), 0))
        for came in (None, (0, 2, (0, 0)), (0, 1, (5, 0)), (1, 2, (0, 0)), (9, 1, (0, 0))):
            self.assertIsNone(self.stays(store, store.drop_link, came))
        self.assertIsNone(store.drop_link((0, 1, (0, 0))))
        self.assertEqual(store.all_links(), [(0, (1, 1), 0)])
        store.slots[0].valid = False
        store.drop_link((0, 1, (1, 1)))
        self.assertEqual(store.all_links(), [])

    def test_all_links(self):
        store = linked_store(3, (2, (0, 1), 0), (0, (1, 1), 2), (0, (1, 0), 2), (0, (0, 1), 1))
        store.slots[0].valid = False
        wanted = [(0, (0, 1), 1), (0, (1, 0), 2), (0, (1, 1), 2), (2, (0, 1), 0)]
        self.same_kind(self.stays(store, store.all_links), wanted)
        store.all_links().clear()
        self.assertEqual(store.all_links(), wanted)
        self.same_kind(BlockStore(3).all_links(), [])


class TestInvalidate(Stores):
    def test_valid_and_invalid_blocks(self):
        store = store_of(3, 1, 2)
        self.assertIs(store.invalidate(1, NOTHING), True)
        self.assertEqual([block.valid for block in store.slots[:2]], [True, False])
        self.assertIs(self.stays(store, store.invalidate, 1, NOTHING), False)
        self.assertEqual(store.serial, 2)

    def test_an_empty_slot(self):
        store = linked_store(2, (0, (0, 0), 1))
        store.slots[1] = None
        for policy in (NOTHING, Policy.full()):
            self.assertIs(self.stays(store, store.invalidate, 1, policy), False)

    def test_links(self):
        links = ((0, (0, 0), 1), (0, (1, 0), 2), (1, (0, 0), 1), (1, (1, 0), 0), (2, (0, 0), 1))
        for valid in (True, False):
            store = linked_store(3, *links)
            store.slots[1].valid = valid
            store.slots[2].valid = False
            self.assertIs(store.invalidate(1, Policy(RULES) - Policy(["cut_links"])), valid)
            self.assertEqual(store.all_links(), sorted(links))
            store.slots[1].valid = valid
            self.assertIs(store.invalidate(1, Policy(["cut_links"])), valid)
            self.assertEqual(store.all_links(), [(0, (1, 0), 2), (1, (1, 0), 0)])

    def test_hits(self):
        store = store_of(5, 1, 17, 1)
        store.put(block_at(1), 4, NOTHING)
        store.slots[2].valid = False
        self.same_kind(self.stays(store, store.hits, ("store", 0, 0, 1), Policy(["invalidate_store"])), [0, 2, 4])
        self.same_kind(store.hits(("store", 0, 0, 1), NOTHING), [])
        self.same_kind(store.hits(("map", 1), Policy(["invalidate_map"])), [1])
        self.same_kind(store.hits(("right", 3), Policy.full()), [])


if __name__ == "__main__":
    unittest.main()
