"""Points 21 and 22, and what point 30 says of `statements`."""

import types
import unittest

from checks import Checks
from guestlives.errors import TextError
from guestlives.scan import read_number, split_words, statements


class TestWords(Checks):
    def test_words(self):
        for text, words in (
            ("", []), ("a", [(1, "a")]), ("set r0 5", [(1, "set"), (5, "r0"), (8, "5")]),
            ("~ ! ;", [(1, "~"), (3, "!"), (5, ";")]), ("a\nb c", [(1, "a\nb"), (5, "c")]),
            ("\n", [(1, "\n")]), ("a \n b", [(1, "a"), (3, "\n"), (5, "b")]),
        ):
            self.same_kind(split_words(text, 1), words)

    def test_wrong_spaces(self):
        for text, column in (
            (" ", 1), ("  ", 1), (" a", 1), ("a ", 2), ("a  b", 3), ("a   b", 3), ("a  ", 3), ("a b ", 4),
            (" a  b ", 1), ("ab cd  ef ", 7), ("a\n ", 3), ("\n  \n", 3),
        ):
            for line in (1, 7, 1000):
                self.refuses(TextError, {"line": line, "column": column}, split_words, text, line)

    def test_lists_are_new(self):
        words = split_words("a b", 1)
        words.clear()
        self.assertEqual(split_words("a b", 1), [(1, "a"), (3, "b")])


class TestNumbers(Checks):
    def test_numbers(self):
        for most in (0, 1, 7, 9, 10, 63, 255, 999, 1000, 1000000):
            for number in {0, most // 2, most - 1, most} - {-1}:
                self.assertEqual(read_number(str(number), 3, 4, most), number)

    def test_wrong_numbers(self):
        wrong = ("", "-1", "+1", "1 ", " 1", "1.0", "a", "1a", "00", "01", "007", "1_0", "r0", "\n", "1\n", "none")
        for word in wrong:
            for most in (0, 255, 1000000):
                self.refuses(TextError, {"line": 9, "column": 12}, read_number, word, 9, 12, most)

    def test_too_great(self):
        for most in (0, 1, 9, 10, 63, 99, 255, 1000, 1000000):
            for word in (str(most + 1), str(most) + "0" if most else "10", "9" * 8, "1" + "0" * 20, "9" * 10000):
                self.refuses(TextError, {"line": 1, "column": 2}, read_number, word, 1, 2, most)

    def test_other_digits_are_none(self):
        for word in ("\u0663", "\u00b2", "1\u0660"):
            self.refuses(TextError, {"line": 1, "column": 2}, read_number, word, 1, 2, 255)


class TestStatements(Checks):
    def test_lines(self):
        text = "\n; a  comment \nhalt\n\nset r0 5\n;\nprint 1\n"
        self.same_kind(list(statements(text)), [
            (3, [(1, "halt")]),
            (5, [(1, "set"), (5, "r0"), (8, "5")]),
            (7, [(1, "print"), (7, "1")]),
        ])

    def test_nothing(self):
        for text in ("", "\n", "\n\n\n", ";", ";  ", "; a\n\n;b "):
            self.assertEqual(list(statements(text)), [])

    def test_a_semicolon_counts_at_the_beginning_only(self):
        self.assertEqual(list(statements("halt ;x")), [(1, [(1, "halt"), (6, ";x")])])
        self.refuses(TextError, {"line": 1, "column": 1}, list, statements(" ;x"))

    def test_it_is_a_generator(self):
        self.assertIsInstance(statements(""), types.GeneratorType)
        found = statements("halt\n a\nhalt")
        self.assertEqual(next(found), (1, [(1, "halt")]))
        with self.assertRaises(TextError) as caught:
            next(found)
        self.assertEqual((caught.exception.line, caught.exception.column), (2, 1))

    def test_wrong_spaces(self):
        for text, line, column in ((" ", 1, 1), ("\nhalt ", 2, 5), (";  \n\na  b", 3, 3), ("\n\n  ", 3, 1)):
            self.refuses(TextError, {"line": line, "column": column}, list, statements(text))


if __name__ == "__main__":
    unittest.main()
