"""Points 43 to 45."""

import inspect
import unittest

from checks import Checks
from guestlives.ops import OPS
from guestlives.parts import Block, Part

CELLS = ((0, 4, 2, 8), (0, 5, 2, 33), (0, 6, 2, 1))
SET = ("set", 5)
COPY = ("move", 2)


def part_at(address, name, operands=(), size=None, captured=()):
    return Part(address, name, operands, 1 + len(operands) if size is None else size, captured)


class TestPart(Checks):
    def test_attributes(self):
        part = Part(4, "store", (33, 1), 3, CELLS, before=((0, SET),), done=False, after=((1, COPY),),
                    start_map={0: SET, 1: COPY}, deed_map={1: COPY})
        self.same_kind(list(vars(part).items()), [
            ("address", 4), ("name", "store"), ("operands", (33, 1)), ("size", 3), ("captured", CELLS),
            ("before", ((0, SET),)), ("done", False), ("after", ((1, COPY),)), ("start_map", {0: SET, 1: COPY}),
            ("deed_map", {1: COPY}),
        ])

    def test_without_small_steps(self):
        part = Part(4, "halt", (), 1, ())
        self.same_kind((part.before, part.done, part.after, part.start_map, part.deed_map), ((), True, (), {}, {}))
        self.assertIsNot(part.start_map, part.deed_map)
        self.assertIsNot(part.start_map, Part(4, "halt", (), 1, ()).start_map)
        with self.assertRaises(TypeError):
            Part(4, "halt", (), 1, (), ())

    def test_lists_are_kept_as_tuples(self):
        part = Part(4, "store", [33, 1], 3, list(CELLS), before=[(0, SET)], after=[(1, COPY)])
        self.same_kind((part.operands, part.captured, part.before, part.after),
                       ((33, 1), CELLS, ((0, SET),), ((1, COPY),)))

    def test_maps_of_any_kind(self):
        for table in ({1: COPY, 0: SET}, [(1, COPY), (0, SET)], ((1, COPY), (0, SET))):
            part = Part(4, "halt", (), 1, (), start_map=table, deed_map=table)
            self.same_kind((part.start_map, part.deed_map), ({0: SET, 1: COPY}, {0: SET, 1: COPY}))

    def test_arguments_are_copied(self):
        table, rows = {0: SET}, [(0, SET)]
        part = Part(4, "halt", (), 1, (), before=rows, start_map=table, deed_map=table)
        part.start_map[1] = COPY
        rows.append((1, COPY))
        self.assertEqual((table, part.deed_map, part.before), ({0: SET}, {0: SET}, ((0, SET),)))
        table[3] = SET
        self.assertEqual(part.deed_map, {0: SET})

    def test_key(self):
        part = Part(4, "store", [33, 1], 3, list(CELLS), before=[(0, SET)], done=False, after=[(1, COPY)],
                    start_map={1: COPY, 0: SET}, deed_map={4: ("flags", 0, 1), 2: SET})
        self.same_kind(part.key(), (4, "store", (33, 1), 3, CELLS, ((0, SET),), False, ((1, COPY),),
                                    ((0, SET), (1, COPY)), ((2, SET), (4, ("flags", 0, 1)))))

    def test_fall_through(self):
        self.assertIsInstance(Part.fall_through, property)
        for address, size, wanted in ((0, 1, 1), (14, 3, 17), (61, 2, 63), (61, 3, 0), (63, 1, 0), (63, 3, 2)):
            self.same_kind(Part(address, "halt", (), size, ()).fall_through, wanted)

    def test_address_after(self):
        part = part_at(62, "jumpz", (9,))
        self.assertEqual((part.address_after(0), part.address_after(1)), (0, 9))
        self.assertEqual(part_at(3, "jump", (9,)).address_after(0), 5)
        self.assertEqual(part_at(3, "set", (2, 9)).address_after(0), 6)

    def test_nothing_is_checked(self):
        part = Part(99, "nothing", (300,), 7, ())
        self.assertEqual(Block(70, 5, [part]).parts, [part])


class TestBlock(Checks):
    def test_attributes(self):
        parts = [part_at(3, "print", (1,)), part_at(5, "halt")]
        block = Block(3, 1, parts)
        self.same_kind(list(vars(block).items()), [
            ("entry", 3), ("level", 1), ("parts", parts), ("serial", 0), ("valid", True), ("links", {}), ("counts", {}),
        ])
        self.assertIsNot(block.parts, parts)
        self.assertIsNot(block.links, block.counts)
        self.assertIsNot(block.links, Block(3, 1, parts).links)
        self.same_kind(Block(3, 1, tuple(parts)).parts, parts)

    def test_iterating(self):
        parts = [part_at(3, "print", (1,)), part_at(5, "halt")]
        self.assertEqual(list(Block(3, 1, parts)), parts)
        self.assertEqual([part.name for part in Block(3, 1, parts)], ["print", "halt"])
        self.assertEqual(list(Block(3, 1, [])), [])

    def test_captured_cells(self):
        block = Block(3, 1, [part_at(3, "store", (1, 1), captured=CELLS), part_at(6, "halt"),
                             part_at(7, "print", (1,), captured=((0, 7, 2, 1), (0, 8, 2, 1)))])
        found = block.captured_cells()
        self.assertTrue(inspect.isgenerator(found))
        self.same_kind(list(found), list(CELLS) + [(0, 7, 2, 1), (0, 8, 2, 1)])
        self.assertEqual(list(Block(3, 1, []).captured_cells()), [])

    def test_exits_of_one_part(self):
        unlinkable = ("halt", "call", "map", "right", "enable", "disable", "resume", "lower")
        for name, kinds in OPS:
            wanted = [] if name in unlinkable else [(0, 0)]
            wanted = {"jump": [(0, 1)], "jumpz": [(0, 0), (0, 1)], "jumpl": [(0, 0), (0, 1)]}.get(name, wanted)
            self.same_kind(Block(8, 1, [part_at(8, name, (3,) * len(kinds))]).exits(), wanted)

    def test_exits_without_those_to_the_next_part(self):
        parts = [part_at(0, "print", (1,)), part_at(2, "jumpz", (9,)), part_at(4, "jumpl", (20,)),
                 part_at(20, "jump", (3,)), part_at(3, "jump", (22,)), part_at(30, "set", (0, 0)), part_at(33, "halt")]
        self.same_kind(Block(0, 1, parts).exits(), [(1, 1), (2, 0), (4, 1)])

    def test_an_exit_to_an_address_that_is_not_the_next_part(self):
        parts = [part_at(0, "print", (1,)), part_at(3, "print", (1,)), part_at(63, "print", (1,)), part_at(1, "halt")]
        self.same_kind(Block(0, 1, parts).exits(), [(0, 0), (1, 0)])
        self.same_kind(Block(0, 1, [part_at(0, "print", (1,)), part_at(0, "print", (1,))]).exits(), [(0, 0), (1, 0)])
        self.same_kind(Block(0, 1, []).exits(), [])

    def test_an_exit_to_the_part_itself_or_to_the_one_behind_the_next(self):
        self.same_kind(Block(0, 1, [part_at(0, "jump", (0,)), part_at(2, "halt")]).exits(), [(0, 1)])
        parts = [part_at(0, "jumpz", (4,)), part_at(2, "print", (1,)), part_at(4, "halt")]
        self.same_kind(Block(0, 1, parts).exits(), [(0, 1)])

    def test_exit_address(self):
        block = Block(0, 1, [part_at(0, "jumpz", (9,)), part_at(9, "call"), part_at(62, "print", (1,))])
        self.assertEqual([block.exit_address(way) for way in ((0, 0), (0, 1), (1, 0), (2, 0))], [2, 9, 10, 0])

    def test_key(self):
        parts = [part_at(0, "jumpz", [9]), part_at(2, "halt")]
        block = Block(0, 0, parts)
        self.same_kind(block.key(), (0, 0, (parts[0].key(), parts[1].key()), 0, True, (), ()))
        block.serial, block.valid = 7, False
        block.links.update({(1, 0): 3, (0, 1): 2, (0, 0): 5})
        block.counts.update({(1, 0): 1, (0, 1): 4})
        self.same_kind(block.key(), (0, 0, (parts[0].key(), parts[1].key()), 7, False,
                                     (((0, 0), 5), ((0, 1), 2), ((1, 0), 3)), (((0, 1), 4), ((1, 0), 1))))


if __name__ == "__main__":
    unittest.main()
