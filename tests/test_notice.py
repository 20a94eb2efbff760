"""Points 55 to 57."""

import unittest
from itertools import combinations

from checks import Checks
from guestlives.notice import is_hit, tracked
from guestlives.parts import Block, Part
from guestlives.policy import RULES, Policy

# The entry lies in page 0, which leads to frame 2; page 1 leads to frame 3.
FIRST = ((0, 14, 2, 1), (0, 15, 2, 7))
SECOND = ((0, 15, 2, 3), (1, 0, 3, 1))
NAMES = ("invalidate_store", "invalidate_device", "track_frames", "track_second", "invalidate_map", "invalidate_rights")


def block_of(*cells, entry=14):
    return Block(entry, 1, [Part(entry, "print", (1,), 2, row) for row in cells])


def policies():
    for count in range(len(NAMES) + 1):
        for names in combinations(NAMES, count):
            yield names, Policy(names)


class TestTracked(Checks):
    def test_with_and_without_track_second(self):
        block = block_of(FIRST, SECOND)
        self.same_kind(tracked(block, Policy(["track_second"])), FIRST + SECOND)
        self.same_kind(tracked(block, Policy.empty()), FIRST + SECOND[:1])
        self.same_kind(tracked(block, Policy(RULES) - Policy(["track_second"])), FIRST + SECOND[:1])
        self.same_kind(tracked(block_of(FIRST, SECOND, entry=16), Policy.empty()), SECOND[1:])
        self.same_kind(tracked(Block(14, 1, []), Policy.full()), ())

    def test_the_page_of_the_entry(self):
        # The last cells lie in the first page again, behind the last address.
        cells = ((3, 15, 3, 1), (0, 0, 0, 1), (3, 0, 3, 9))
        self.same_kind(tracked(block_of(cells, entry=63), Policy.empty()), (cells[0], cells[2]))


class TestIsHit(Checks):
    def hits(self, change, needed, block):
        """The policies that hit are those with all of the needed names of one of the rows."""
        for names, policy in policies():
            wanted = any(set(row) <= set(names) for row in needed)
            self.assertIs(is_hit(block, change, policy), wanted, (change, names))

    def both(self, change, needed):
        block = block_of(FIRST, SECOND)
        self.hits(change, needed, block)
        block.valid = False
        self.hits(change, needed, block)

    def test_a_store_through_the_page(self):
        self.both(("store", 0, 2, 14), [("invalidate_store",)])
        self.both(("store", 1, 3, 0), [("invalidate_store", "track_second")])

    def test_a_store_through_another_page_of_the_frame(self):
        self.both(("store", 3, 2, 15), [("invalidate_store", "track_frames")])
        self.both(("store", 0, 3, 0), [("invalidate_store", "track_frames", "track_second")])

    def test_a_store_through_the_page_into_another_frame(self):
        block = block_of(FIRST, SECOND)
        for names, policy in policies():
            wanted = "invalidate_store" in names and "track_frames" not in names
            self.assertIs(is_hit(block, ("store", 0, 1, 14), policy), wanted)
            wanted = wanted and "track_second" in names
            self.assertIs(is_hit(block, ("store", 1, 0, 0), policy), wanted)

    def test_a_store_into_another_cell(self):
        self.both(("store", 0, 2, 13), [])
        self.both(("store", 1, 3, 1), [])
        self.both(("store", 2, 0, 14), [])

    def test_the_device(self):
        needed = ("invalidate_device", "track_frames")
        self.both(("device", 2, 14), [needed])
        self.both(("device", 3, 0), [needed + ("track_second",)])
        self.both(("device", 2, 0), [])
        self.both(("device", 0, 14), [])

    def test_maps_and_rights(self):
        for name, rule in (("map", "invalidate_map"), ("right", "invalidate_rights")):
            self.both((name, 0), [(rule,)])
            self.both((name, 1), [(rule, "track_second")])
            self.both((name, 2), [])
            self.both((name, 3), [])

    def test_a_block_without_cells(self):
        for change in (("store", 0, 2, 14), ("device", 2, 14), ("map", 0), ("right", 0)):
            self.assertIs(is_hit(Block(14, 1, []), change, Policy.full()), False)
            self.assertIs(is_hit(block_of(FIRST), change, Policy.full()), True)


if __name__ == "__main__":
    unittest.main()
