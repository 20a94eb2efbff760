"""Points 23, 28 and 29."""

import unittest

from checks import Checks, blank_frames
from guestlives.errors import TextError
from guestlives.guest import Guest
from guestlives.guesttext import format_guest, parse_guest

BLANK_LINES = (
    "page 0 0 7", "page 1 1 7", "page 2 2 7", "page 3 3 7", "start 0 0", "start 1 none", "handler 0 60",
    "handler 1 60", "frame 0", "frame 1", "frame 2", "frame 3",
)
HEADS = ["page"] * 4 + ["start"] * 2 + ["handler"] * 2 + ["frame"] * 4


def mixed_guest():
    frames = blank_frames()
    frames[0] = [255] * 16
    frames[1][0] = 7
    frames[3][15] = 1
    return Guest(frames, ((3, 0), (0, 7), (0, 1), (1, 2)), (None, 63), (0, 63), ((3, 15, 255), (0, 0, 0)))


MIXED_LINES = (
    "page 0 3 0", "page 1 0 7", "page 2 0 1", "page 3 1 2", "start 0 none", "start 1 63", "handler 0 0",
    "handler 1 63", "frame 0" + " 255" * 16, "frame 1 7", "frame 2", "frame 3" + " 0" * 15 + " 1",
    "write 3 15 255", "write 0 0 0",
)


class TestFormat(Checks):
    def test_texts(self):
        self.assertEqual(format_guest(Guest.blank()), "\n".join(BLANK_LINES))
        self.assertEqual(format_guest(mixed_guest()), "\n".join(MIXED_LINES))

    def test_texts_read_back(self):
        most = Guest(blank_frames(), writes=[(at % 4, at % 16, at) for at in range(64)])
        for guest in (Guest.blank(), mixed_guest(), most):
            again = parse_guest(format_guest(guest))
            self.assertIsInstance(again, Guest)
            self.same_kind(again.key(), guest.key())


class TestParse(Checks):
    def wrong(self, lines, line, column):
        text = "\n".join(lines)
        self.refuses(TextError, {"line": line, "column": column}, parse_guest, text)

    def wrong_line(self, line, text, column):
        """The text in place of this line is wrong at the column, whatever stands behind it."""
        before = list(MIXED_LINES[:line - 1])
        self.wrong(before + [text] + list(MIXED_LINES[line:]), line, column)
        self.wrong(before + [text], line, column)
        self.wrong(before + [text, " ", "", "nothing"], line, column)

    def test_a_wrong_space(self):
        for line, text in enumerate(MIXED_LINES, 1):
            self.wrong_line(line, " " + text, 1)
            self.wrong_line(line, text + " ", len(text) + 1)
            self.wrong_line(line, text.replace(" ", "  ", 1), text.index(" ") + 2)
            self.wrong_line(line, "nothing 9  9 9 9 9", 11)

    def test_b_first_word(self):
        for line in range(1, 15):
            due = (HEADS + ["write"] * 2)[line - 1]
            for head in ("", "nothing", "Page", "0", ";", due + "s", due[:-1]):
                self.wrong_line(line, head, 1)
            for head in {"page", "start", "handler", "frame", "write"} - {due}:
                self.wrong_line(line, f"{head} 0 0 0", 1)
                self.wrong_line(line, f"{head} 999", 1)

    def test_c_count_of_words(self):
        for line, text in enumerate(MIXED_LINES, 1):
            if text.startswith("frame"):
                continue
            words = text.split(" ")
            for count in range(1, len(words)):
                row = " ".join(words[:1] + ["x"] * (count - 1))
                self.wrong_line(line, row, len(row) + 1)
            self.wrong_line(line, text + " x y", len(text) + 2)
            self.wrong_line(line, " ".join(words[:1] + ["x"] * len(words)), len(words[0]) + 2 * len(words))

    def test_c_count_of_words_of_frames(self):
        for line in range(9, 13):
            self.wrong_line(line, "frame", 6)
            row = f"frame {line - 9}" + " 1" * 16
            self.wrong_line(line, row + " 1", len(row) + 2)
            self.wrong_line(line, "frame x" + " y" * 17, 8 + 2 * 16 + 1)
            text = "\n".join(MIXED_LINES[:line - 1] + (row,) + MIXED_LINES[line:])
            self.assertEqual(parse_guest(text).frames[line - 9], (1,) * 16)

    def test_d_the_number_that_is_due(self):
        for line, text in enumerate(MIXED_LINES[:12], 1):
            words = text.split(" ")
            for number in ("9", "x", "00", str((int(words[1]) + 1) % 2), "none", "-1"):
                row = " ".join(words[:1] + [number] + ["999"] * (len(words) - 2))
                self.wrong_line(line, row, len(words[0]) + 2)

    def test_d_words(self):
        for line, text, column in (
            (1, "page 0 4 9", 8), (2, "page 1 0 8", 10), (3, "page 2 none 8", 8), (4, "page 3 03 1", 8),
            (5, "start 0 64", 9), (6, "start 1 None", 9), (6, "start 1 -1", 9), (6, "start 1 00", 9),
            (7, "handler 0 64", 11), (8, "handler 1 none", 11), (9, "frame 0 256", 9), (9, "frame 0 1 x 0", 11),
            (10, "frame 1 01", 9), (12, "frame 3 1 1 1 -1", 15), (13, "write 4 16 256", 7),
            (13, "write 0 16 256", 9), (14, "write 0 0 256", 11), (14, "write 0 0 01", 11),
        ):
            self.wrong_line(line, text, column)

    def test_the_last_cell_of_a_frame(self):
        for line in range(9, 13):
            at = line - 9
            self.wrong_line(line, f"frame {at} 0", 9)
            self.wrong_line(line, f"frame {at} 0 0 0", 13)
            self.wrong_line(line, f"frame {at} 255 0", 13)
            self.wrong_line(line, f"frame {at}" + " 7" * 15 + " 0", 9 + 30)
            self.wrong_line(line, f"frame {at} x 0", 9)

    def test_too_few_lines(self):
        for count in range(1, 12):
            self.wrong(MIXED_LINES[:count], count + 1, 1)
        self.wrong([], 1, 1)
        self.wrong([""], 1, 1)

    def test_an_empty_line_at_the_end(self):
        self.wrong(MIXED_LINES + ("",), 15, 1)
        self.wrong(BLANK_LINES + ("",), 13, 1)
        self.wrong(MIXED_LINES[:5] + ("",), 6, 1)

    def test_the_77th_line(self):
        lines = list(BLANK_LINES) + ["write 0 0 0"] * 64
        self.assertEqual(len(parse_guest("\n".join(lines)).writes), 64)
        for text in ("write 0 0 0", "", " ", "write  0", "write", "nothing"):
            self.wrong(lines + [text], 77, 1)
            self.wrong(lines + [text, " x"], 77, 1)
        self.wrong(lines[:-1] + ["write 0 0", "write 0 0 0"], 76, 10)

    def test_the_first_wrong_line(self):
        lines = list(MIXED_LINES)
        lines[3] = "page 3 9 9"
        lines[7] = " "
        self.wrong(lines, 4, 8)


if __name__ == "__main__":
    unittest.main()
