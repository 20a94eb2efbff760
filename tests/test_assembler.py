"""Points 23, 30 and 31."""

import unittest

from checks import Checks, blank_frames
from guestlives.assembler import assemble
from guestlives.errors import TextError
from guestlives.guest import Guest, build_guest
from guestlives.ops import OPS

NAMES = [name for name, _ in OPS]


class TestAssemble(Checks):
    def test_nothing(self):
        for text in ("", "\n", "; nothing\n\n;", "at 5", "label here", "at 63\nlabel here\n"):
            self.same_kind(assemble(text).key(), Guest.blank().key())

    def test_instructions(self):
        guest = assemble("set r0 5\nshow r0\n; and on\n\nstore 63 r3\nright 2 7\nmap 3 1\nhalt\nlower")
        wanted = build_guest([(0, [("set", (0, 5)), ("show", (0,)), ("store", (63, 3)), ("right", (2, 7)),
                                   ("map", (3, 1)), ("halt", ()), ("lower", ())])])
        self.same_kind(guest.key(), wanted.key())

    def test_every_statement(self):
        guest = assemble("\n".join((
            "page 1 0 3", "page 3 2 0", "start 0 none", "start 1 17", "handler 1 0", "handler 0 63", "write 3 15 255",
            "write 0 0 0", "at 62", "cell 7", "cell 255", "cell 9", "at 20", "print 8",
        )))
        frames = blank_frames()
        frames[2][14:] = [7, 255]
        frames[0][0] = 9
        frames[0][4:6] = [1, 8]
        wanted = Guest(frames, ((0, 7), (0, 3), (2, 7), (2, 0)), (None, 17), (63, 0), ((3, 15, 255), (0, 0, 0)))
        self.same_kind(guest.key(), wanted.key())

    def test_defaults_stay_where_nothing_is_said(self):
        self.assertEqual(assemble("start 1 3").starts, (0, 3))
        self.assertEqual(assemble("start 0 3").starts, (3, None))
        self.assertEqual(assemble("start 1 none").starts, (0, None))
        self.assertEqual(assemble("handler 0 3").handlers, (3, 60))
        self.assertEqual(assemble("handler 1 3").handlers, (60, 3))
        self.assertEqual(assemble("page 2 3 0").pages, ((0, 7), (1, 7), (3, 0), (3, 7)))

    def test_instructions_over_the_end(self):
        guest = assemble("at 15\nset r1 9\nat 63\njump 5")
        self.assertEqual(guest.frames[0], (5,) + (0,) * 14 + (3,))
        self.assertEqual(guest.frames[1][:3], (1, 9, 0))
        self.assertEqual(guest.frames[3][15], 9)

    def test_cells_of_0_count_as_placed(self):
        self.refuses(TextError, {"line": 3, "column": 1}, assemble, "cell 0\nat 0\ncell 0")

    def test_64_writes_and_all_cells(self):
        guest = assemble("\n".join(["write 1 2 3"] * 64 + [f"cell {number}" for number in range(64)]))
        self.assertEqual(guest.writes, ((1, 2, 3),) * 64)
        self.assertEqual([number for frame in guest.frames for number in frame], list(range(64)))


class TestLabels(Checks):
    def test_before_and_behind(self):
        guest = assemble("label a\njump later\njumpz a\nstore later r1\nlabel later\nload r2 a\njumpl later")
        wanted = build_guest([(0, [("jump", (7,)), ("jumpz", (0,)), ("store", (7, 1)), ("load", (2, 0)),
                                   ("jumpl", (7,))])])
        self.same_kind(guest.key(), wanted.key())

    def test_a_label_stands_for_the_current_address(self):
        self.assertEqual(assemble("jump end\nat 63\nlabel end").frames[0][:2], (9, 63))
        self.assertEqual(assemble("at 63\ncell 1\nlabel zero\nat 5\njump zero").frames[0][5:7], (9, 0))
        self.assertEqual(assemble("page 1 0 7\nat 20\nlabel far\njump far").frames[0][4:6], (9, 20))

    def test_many_names_for_one_address(self):
        self.assertEqual(assemble("at 9\nlabel a\nlabel b\njump b\njump a").frames[0][9:13], (9, 9, 9, 9))

    def test_names_of_statements_may_be_labels(self):
        for name in ("page", "start", "handler", "write", "at", "label", "cell", "none", "a", "abcdefgh", "zzzzzzzz"):
            self.assertEqual(assemble(f"jump {name}\nat 40\nlabel {name}").frames[0][:2], (9, 40))

    def test_wrong_names(self):
        for name in NAMES + ["abcdefghi", "A", "a1", "r0", "5", "a_b", ";", "a\\"]:
            self.refuses(TextError, {"line": 2, "column": 7}, assemble, f"halt\nlabel {name}\ncell 999")

    def test_a_name_twice(self):
        self.refuses(TextError, {"line": 3, "column": 7}, assemble, "label a\nhalt\nlabel a")
        self.refuses(TextError, {"line": 2, "column": 7}, assemble, "label a\nlabel a\njump a")

    def test_no_such_label(self):
        for text, line, column in (
            ("jump nowhere", 1, 6), ("label a\nload r0 b", 2, 9), ("store b r0", 1, 7), (";label b\njump b", 2, 6),
            ("jump b\nlabel bb", 1, 6), ("jump b\nlabel B", 1, 6), ("jump b\n label b", 1, 6),
            ("jump b\nlabel b ", 1, 6), ("jump b\nlabel  b", 1, 6), ("jump b\nlabel b c", 1, 6),
            ("jump b\nat b", 1, 6),
        ):
            self.refuses(TextError, {"line": line, "column": column}, assemble, text)

    def test_the_line_of_a_label_may_be_wrong_later(self):
        self.refuses(TextError, {"line": 3, "column": 7}, assemble, "jump b\nlabel b\nlabel b")
        self.refuses(TextError, {"line": 1, "column": 6}, assemble, "jump halt\nlabel halt")
        self.refuses(TextError, {"line": 1, "column": 6}, assemble, "jump abcdefghi\nlabel abcdefghi")

    def test_labels_stand_for_addresses_alone(self):
        for text, column in (
            ("set a 1", 5), ("set r0 a", 8), ("print a", 7), ("map a 0", 5), ("right 0 a", 9), ("cell a", 6),
            ("at a", 4), ("start 0 a", 9), ("handler 0 a", 11), ("page a 0 0", 6), ("write 0 0 a", 11),
        ):
            self.refuses(TextError, {"line": 2, "column": column}, assemble, f"label a\n{text}")


class TestFaults(Checks):
    def wrong(self, text, column, before=""):
        line = 2 + before.count("\n")
        text = before + "\n" + text
        self.refuses(TextError, {"line": line, "column": column}, assemble, text)
        self.refuses(TextError, {"line": line, "column": column}, assemble, text + "\n nop  1\nnop")

    def test_a_wrong_space(self):
        for text, column in ((" ", 1), (" halt", 1), ("halt ", 5), ("page  0 0 7", 6), (" ; x", 1), ("at 1 ", 5)):
            self.wrong(text, column)

    def test_b_first_word(self):
        for text in ("nop", "Page 0 0 7", "frame 0", "label: a", "5", "none", "a", "page; 0 0 7"):
            self.wrong(text, 1)

    def test_c_count_of_words(self):
        for name, count in (
            ("page", 3), ("start", 2), ("handler", 2), ("write", 3), ("at", 1), ("label", 1), ("cell", 1), ("set", 2),
            ("halt", 0), ("jump", 1),
        ):
            for many in range(count):
                text = " ".join([name] + ["999"] * many)
                self.wrong(text, len(text) + 1)
            text = " ".join([name] + ["999"] * count)
            self.wrong(text + " x", len(text) + 2)
            self.wrong(text + " x y", len(text) + 2)

    def test_d_words(self):
        for text, column in (
            ("page 4 0 7", 6), ("page 0 4 7", 8), ("page 0 0 8", 10), ("page 00 0 7", 6), ("page none 4 8", 6),
            ("start 2 0", 7), ("start 0 64", 9), ("start none 0", 7), ("start 0 None", 9), ("start 2 64", 7),
            ("handler 2 0", 9), ("handler 0 64", 11), ("handler 0 none", 11), ("write 4 0 0", 7),
            ("write 0 16 0", 9), ("write 0 0 256", 11), ("at 64", 4), ("at 01", 4), ("cell 256", 6), ("cell -1", 6),
            ("set r4 0", 5), ("set r0 256", 8), ("set 0 0", 5), ("jump 64", 6), ("jump A", 6), ("store 64 r0", 7),
            ("store 0 0", 9), ("load r0 r1", 9), ("right 0 8", 9), ("map 0 4", 7),
        ):
            self.wrong(text, column)

    def test_e_page_behind_a_number(self):
        self.wrong("page 0 0 7", 1, "cell 0")
        self.wrong("page 0 0 7", 1, "halt")
        assemble("at 5\nlabel a\nwrite 0 0 0\nstart 0 0\nhandler 0 0\npage 0 0 7\ncell 0")

    def test_e_write_behind_64(self):
        writes = "\n".join(["write 0 0 0"] * 64)
        self.wrong("write 0 0 0", 1, writes)
        self.wrong("write 0 0 256", 11, writes)
        assemble(writes)

    def test_e_a_cell_again(self):
        self.wrong("cell 1", 1, "cell 0\nat 0")
        self.wrong("halt", 1, "cell 0\nat 0")
        self.wrong("set r0 5", 1, "at 2\ncell 0\nat 0")
        self.wrong("set r0 5", 1, "cell 0\nat 62")
        self.wrong("cell 1", 1, "page 1 0 7\nat 3\ncell 1\nat 19")
        self.wrong("jump 4", 1, "page 3 1 7\nat 48\ncell 1\nat 15")
        assemble("page 1 0 7\nat 3\ncell 1\nat 20\ncell 1")

    def test_e_around_the_addresses(self):
        rows = ["cell 1"] * 64
        self.wrong("cell 1", 1, "\n".join(rows))
        self.wrong("print 300", 7, "\n".join(rows))

    def test_f_second_statements(self):
        self.wrong("page 2 0 7", 6, "page 2 2 7")
        self.wrong("start 1 none", 7, "start 1 5")
        self.wrong("start 0 0", 7, "start 0 none")
        self.wrong("handler 0 0", 9, "handler 0 60")
        assemble("page 0 0 7\npage 1 1 7\nstart 0 0\nstart 1 0\nhandler 0 0\nhandler 1 0")

    def test_the_first_fault_of_a_line(self):
        before = "page 0 0 7\nstart 0 0\nhandler 0 0\ncell 1\nat 0"
        for text, column in (
            ("nop  1", 5), ("page 9  9 9 9", 8), ("nop 1 1", 1), ("page 9 9", 9), ("page 9 9 9 9", 12),
            ("page 9 0 7", 6), ("page 0 0 7", 1), ("start 0 99", 9), ("start 0 0 0", 11), ("handler 0 99", 11),
            ("cell 999", 6), ("cell", 5), ("cell 0", 1), ("print 999", 7), ("print 9", 1), ("set r0", 7),
            ("jump a", 6), ("label", 6), ("start 0 0", 7), ("handler 0 0", 9),
        ):
            self.wrong(text, column, before)

    def test_the_first_wrong_line(self):
        self.refuses(TextError, {"line": 2, "column": 5}, assemble, "halt\nhalt \nnop\nlabel")
        self.refuses(TextError, {"line": 1, "column": 1}, assemble, "nop\nhalt ")


if __name__ == "__main__":
    unittest.main()
