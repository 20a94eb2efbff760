"""Points 121 and 122."""

import unittest
from itertools import product

from checks import Checks, guest_of_texts
from guestlives.errors import SettingError
from guestlives.guest import Guest
from guestlives.makers import printer_guest, stamper_guest
from guestlives.plain import PlainRun

LISTS = ([], [0], [255], [7, 7], [1, 2, 3], [255, 0, 19], [0, 0, 0])
WRONG_LISTS = ([1, 2, 3, 4], [0] * 4, [256], [-1], [0, 300], [1, 2, -5], [256, 1, 2, 3])


def printer_text(numbers):
    rows = []
    for index, number in enumerate(numbers):
        a = 48 + 2 * index
        rows.append(f"set r0 1; store {a} r0; set r0 {number}; store {a + 1} r0; ")
    return "".join(rows) + f"set r0 0; store {48 + 2 * len(numbers)} r0; jump 48"


def stamper_text(numbers):
    rows = [f"set r0 {number}; store 49 r0; set r0 {14 * (index + 1)}; store 51 r0; jump 48; "
            for index, number in enumerate(numbers)]
    return "".join(rows) + "halt"


class TestMakers(Checks):
    def test_the_guests(self):
        for numbers in LISTS:
            for given in (numbers, tuple(numbers)):
                guest = printer_guest(given)
                self.assertIsInstance(guest, Guest)
                self.assertEqual(guest.key(), guest_of_texts([(0, printer_text(numbers))]).key())
                guest = stamper_guest(given)
                self.assertIsInstance(guest, Guest)
                wanted = guest_of_texts([(48, "print 0; jump 0"), (0, stamper_text(numbers))])
                self.assertEqual(guest.key(), wanted.key())

    def test_what_is_not_named_has_its_default(self):
        for make, numbers in product((printer_guest, stamper_guest), LISTS):
            self.assertEqual(make(numbers).key()[1:], Guest.blank().key()[1:])

    def test_plain_runs(self):
        for numbers in LISTS:
            for make, steps in ((printer_guest, 5 * len(numbers) + 4), (stamper_guest, 7 * len(numbers) + 1)):
                run = PlainRun.replay(make(numbers), ["g0"] * (steps - 1))
                self.assertEqual(run.events, [("print", 0, number) for number in numbers])
                self.assertFalse(run.finished)
                self.assertEqual(run.do("g0"), [("halt", 0)])
                self.assertTrue(run.finished)

    def test_wrong_lists(self):
        for make in (printer_guest, stamper_guest):
            for numbers in WRONG_LISTS:
                before = list(numbers)
                self.refuses(SettingError, {"name": "numbers"}, make, numbers)
                self.refuses(SettingError, {"name": "numbers"}, make, tuple(numbers))
                self.assertEqual(numbers, before)

    def test_the_list_is_not_changed(self):
        numbers = [5, 6]
        printer_guest(numbers)
        stamper_guest(numbers)
        self.assertEqual(numbers, [5, 6])


if __name__ == "__main__":
    unittest.main()
