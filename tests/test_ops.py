"""Points 5, 6 and 7."""

import unittest
from itertools import product

from checks import Checks
from guestlives import ops
from guestlives.errors import InstructionError

TABLE = (
    "halt", "print n", "show r", "set rn", "move rr", "add rr", "compare rr", "load ra", "store ar", "jump a",
    "jumpz a", "jumpl a", "call", "map gf", "right gk", "enable", "disable", "resume", "lower",
)
KINDS = {"r": 4, "n": 256, "a": 64, "g": 4, "f": 4, "k": 8}
WRONG_NAMES = ("", "Halt", "halt ", "nop", "sets", "none", "r0")

FUNCTIONS_OF_A_NAME = (
    ops.op_number, ops.operand_kinds, ops.size_of, ops.is_supervisor, ops.ends_block, ops.is_linkable, ops.is_jump,
)


def every_instruction():
    for name, kinds in ops.OPS:
        for operands in product(*[(0, KINDS[kind] - 1) for kind in kinds]):
            yield name, operands


class TestTable(Checks):
    def test_ops(self):
        self.same_kind(ops.OPS, tuple(tuple((row + " ").split(" ")[:2]) for row in TABLE))

    def test_places_kinds_and_sizes(self):
        for number, row in enumerate(TABLE):
            name, _, kinds = row.partition(" ")
            self.assertEqual(ops.op_number(name), number)
            self.assertEqual(ops.operand_kinds(name), kinds)
            self.assertEqual(ops.size_of(name), 1 + len(kinds))

    def test_counts_of_kinds(self):
        for kind, count in KINDS.items():
            self.assertEqual(ops.operand_limit(kind), count)

    def test_no_instruction(self):
        for name in WRONG_NAMES:
            for function in FUNCTIONS_OF_A_NAME:
                self.refuses(InstructionError, {"name": name}, function, name)
            for function in (ops.encode, ops.values_read, ops.value_made):
                self.refuses(InstructionError, {"name": name}, function, name, ())


class TestDecode(Checks):
    def test_example(self):
        self.same_kind(ops.encode("store", (12, 3)), [8, 12, 3])

    def test_round(self):
        for name, operands in every_instruction():
            numbers = ops.encode(name, operands)
            self.assertIs(type(numbers), list)
            self.assertEqual(numbers, [ops.op_number(name)] + list(operands))
            self.same_kind(ops.decode(numbers), (name, operands))
            self.same_kind(ops.decode(numbers + [7, 255, 19]), (name, operands))

    def test_too_short(self):
        for name, operands in every_instruction():
            numbers = ops.encode(name, operands)
            for count in range(len(numbers)):
                self.assertIsNone(ops.decode(numbers[:count]))

    def test_no_op_number(self):
        self.same_kind(ops.decode([18]), ("lower", ()))
        for number in (19, 20, 255):
            self.assertIsNone(ops.decode([number, 0, 0]))
        self.assertIsNone(ops.decode([]))

    def test_operands_are_taken_modulo(self):
        self.same_kind(ops.decode([3, 4, 255]), ("set", (0, 255)))
        self.same_kind(ops.decode([3, 255, 0]), ("set", (3, 0)))
        self.same_kind(ops.decode([9, 64]), ("jump", (0,)))
        self.same_kind(ops.decode([9, 255]), ("jump", (63,)))
        self.same_kind(ops.decode([13, 6, 5]), ("map", (2, 1)))
        self.same_kind(ops.decode([14, 4, 8]), ("right", (0, 0)))
        self.same_kind(ops.decode([14, 7, 255]), ("right", (3, 7)))

    def test_arguments_stay(self):
        numbers = [3, 9, 200, 1]
        ops.decode(numbers)
        self.assertEqual(numbers, [3, 9, 200, 1])


class TestEncode(Checks):
    def test_number_of_operands(self):
        for name, kinds in ops.OPS:
            for count in range(5):
                if count != len(kinds):
                    self.refuses(InstructionError, {"name": name}, ops.encode, name, (0,) * count)

    def test_range_of_operands(self):
        for name, kinds in ops.OPS:
            for at, kind in enumerate(kinds):
                for number in (-1, KINDS[kind], 1000):
                    operands = [0] * len(kinds)
                    operands[at] = number
                    self.refuses(InstructionError, {"name": name}, ops.encode, name, tuple(operands))

    def test_results_are_new(self):
        first = ops.encode("set", (1, 2))
        first.append(9)
        self.assertEqual(ops.encode("set", (1, 2)), [3, 1, 2])


class TestValues(Checks):
    def test_read(self):
        cases = (
            ("show", (2,), (2,)), ("move", (1, 3), (3,)), ("move", (0, 0), (0,)), ("add", (3, 1), (1, 3)),
            ("add", (0, 2), (0, 2)), ("add", (2, 2), (2,)), ("compare", (3, 0), (0, 3)), ("compare", (1, 1), (1,)),
            ("store", (3, 1), (1,)), ("store", (63, 0), (0,)), ("jumpz", (1,), (4,)), ("jumpl", (2,), (4,)),
            ("halt", (), ()), ("print", (3,), ()), ("set", (1, 2), ()), ("load", (1, 2), ()), ("jump", (3,), ()),
            ("call", (), ()), ("map", (1, 2), ()), ("right", (1, 2), ()), ("enable", (), ()), ("disable", (), ()),
            ("resume", (), ()), ("lower", (), ()),
        )
        self.assertEqual({case[0] for case in cases}, {name for name, _ in ops.OPS})
        for name, operands, values in cases:
            self.same_kind(ops.values_read(name, operands), values)

    def test_made(self):
        makers = {"set": (2, 9), "move": (2, 1), "add": (2, 1), "load": (2, 40)}
        for name, operands in every_instruction():
            if name not in makers and name != "compare":
                self.assertIsNone(ops.value_made(name, operands))
        for name, operands in makers.items():
            self.assertEqual(ops.value_made(name, operands), 2)
        self.assertEqual(ops.value_made("compare", (0, 1)), 4)


class TestGroups(Checks):
    def names(self, function):
        for name, _ in ops.OPS:
            self.assertIn(function(name), (True, False))
            self.assertIs(type(function(name)), bool)
        return [name for name, _ in ops.OPS if function(name)]

    def test_supervisor(self):
        self.assertEqual(self.names(ops.is_supervisor), ["map", "right", "enable", "disable", "resume"])

    def test_jumps(self):
        self.assertEqual(self.names(ops.is_jump), ["jump", "jumpz", "jumpl"])

    def test_linkable(self):
        self.assertEqual(
            self.names(ops.is_linkable),
            ["print", "show", "set", "move", "add", "compare", "load", "store", "jump", "jumpz", "jumpl"],
        )

    def test_end_of_block(self):
        self.assertEqual(
            self.names(ops.ends_block),
            ["halt", "jump", "jumpz", "jumpl", "call", "map", "right", "enable", "disable", "resume", "lower"],
        )


if __name__ == "__main__":
    unittest.main()
