"""Points 23 and 24."""

import unittest
from itertools import product

from checks import Checks
from guestlives import ops
from guestlives.errors import InstructionError, TextError
from guestlives.instructions import format_instruction, parse_instruction

KINDS = {"r": 4, "n": 256, "a": 64, "g": 4, "f": 4, "k": 8}


def every_instruction():
    for name, kinds in ops.OPS:
        for operands in product(*[(0, 1, KINDS[kind] - 1) for kind in kinds]):
            yield name, operands


class TestFormat(Checks):
    def test_texts(self):
        for instruction, text in (
            (("halt", ()), "halt"), (("print", (255,)), "print 255"), (("show", (3,)), "show r3"),
            (("set", (0, 5)), "set r0 5"), (("move", (1, 2)), "move r1 r2"), (("add", (3, 3)), "add r3 r3"),
            (("compare", (0, 1)), "compare r0 r1"), (("load", (2, 63)), "load r2 63"),
            (("store", (12, 3)), "store 12 r3"), (("jump", (0,)), "jump 0"), (("jumpz", (9,)), "jumpz 9"),
            (("jumpl", (63,)), "jumpl 63"), (("call", ()), "call"), (("map", (3, 1)), "map 3 1"),
            (("right", (2, 7)), "right 2 7"), (("enable", ()), "enable"), (("disable", ()), "disable"),
            (("resume", ()), "resume"), (("lower", ()), "lower"),
        ):
            self.assertEqual(format_instruction(*instruction), text)
            self.same_kind(parse_instruction(text), instruction)

    def test_texts_read_back(self):
        for name, operands in every_instruction():
            self.same_kind(parse_instruction(format_instruction(name, operands)), (name, operands))

    def test_errors_are_those_of_encoding(self):
        for name, operands in (
            ("", ()), ("nop", ()), ("page", (0, 0, 0)), ("halt", (0,)), ("set", (0,)), ("set", (0, 1, 2)),
            ("set", (4, 0)), ("set", (0, 256)), ("set", (-1, 0)), ("jump", (64,)), ("map", (4, 0)), ("map", (0, 4)),
            ("right", (0, 8)), ("store", (64, 0)), ("store", (0, 4)), ("print", ()),
        ):
            self.refuses(InstructionError, {"name": name}, format_instruction, name, operands)


class TestParse(Checks):
    def wrong(self, text, column):
        self.refuses(TextError, {"line": 1, "column": column}, parse_instruction, text)
        self.refuses(TextError, {"line": 31, "column": column}, parse_instruction, text, 31)
        self.refuses(TextError, {"line": 31, "column": column}, parse_instruction, text, line=31)

    def test_a_wrong_space(self):
        for text, column in ((" ", 1), (" halt", 1), ("halt ", 5), ("set  r0 5", 5), ("set r0  5", 8)):
            self.wrong(text, column)

    def test_b_first_word(self):
        for text in ("", "nop", "Halt", "r0", "page 0 0 7", "none", "; halt", "halt\n", "\n", "nop r9 r9"):
            self.wrong(text, 1)

    def test_c_count_of_words(self):
        for text, column in (
            ("set", 4), ("set r0", 7), ("set r0 5 6", 10), ("set r0 5 6 7", 10), ("halt 1", 6), ("print", 6),
            ("jump 1 2", 8), ("store 12", 9), ("call call", 6),
        ):
            self.wrong(text, column)

    def test_d_words(self):
        for text, column in (
            ("set 0 5", 5), ("set r4 5", 5), ("set R0 5", 5), ("set r00 5", 5), ("set r 5", 5), ("set r0 256", 8),
            ("set r0 r1", 8), ("set r0 05", 8), ("set r0 -1", 8), ("set r4 256", 5), ("move r0 1", 9),
            ("jump 64", 6), ("jump r0", 6), ("jump here", 6), ("load r0 64", 9), ("store 64 r0", 7),
            ("store 1 1", 9), ("map 4 0", 5), ("map 0 4", 7), ("right 4 0", 7), ("right 0 8", 9), ("print 256", 7),
            ("print 1\n", 7), ("show 0", 6),
        ):
            self.wrong(text, column)

    def test_the_first_fault(self):
        self.wrong("nop  1", 5)
        self.wrong("nop r0 ", 7)
        self.wrong("set r9  1 1", 8)
        self.wrong("nop 1 2 3 4", 1)
        self.wrong("set r9", 7)
        self.wrong("set r9 999 1", 12)


if __name__ == "__main__":
    unittest.main()
