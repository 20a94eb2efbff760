"""Point 33."""

import unittest
from itertools import product

from checks import Checks, guest_of, guest_with
from guestlives.fetch import fetch_at
from guestlives.guest import PLAIN_PAGES
from guestlives.machine import Machine

NO_EXECUTE = (None, "execute")
INVALID = (None, "invalid")


def rights(*numbers):
    return tuple((page, number) for page, number in enumerate(numbers))


class TestFetch(Checks):
    def fetched(self, guest, address):
        machine = Machine(guest)
        before = machine.key()
        result = fetch_at(machine, address)
        self.assertEqual(machine.key(), before)
        return result

    def test_instructions(self):
        guest = guest_of(("halt", ()), ("print", (255,)), ("store", (12, 3)), at=30)
        self.same_kind(self.fetched(guest, 30), (("halt", ()), None))
        self.same_kind(self.fetched(guest, 31), (("print", (255,)), None))
        self.same_kind(self.fetched(guest, 33), (("store", (12, 3)), None))

    def test_operands_are_taken_modulo(self):
        self.same_kind(self.fetched(guest_with([8, 200, 7]), 0), (("store", (8, 3)), None))

    def test_behind_63_is_0(self):
        guest = guest_of(("set", (1, 9)), at=63)
        self.same_kind(self.fetched(guest, 63), (("set", (1, 9)), None))

    def test_no_such_number(self):
        self.same_kind(self.fetched(guest_with([18, 19]), 0), (("lower", ()), None))
        for number in (19, 20, 255):
            self.same_kind(self.fetched(guest_with([18, number]), 1), INVALID)

    def test_each_right_of_the_first_page(self):
        for number in range(8):
            guest = guest_with([1, 5], pages=rights(number, 0, 0, 0))
            wanted = (("print", (5,)), None) if number in (1, 3, 5, 7) else NO_EXECUTE
            self.same_kind(self.fetched(guest, 0), wanted)

    def test_no_execute_right_comes_before_the_number(self):
        for number in (0, 19, 255):
            self.same_kind(self.fetched(guest_with([number], pages=rights(6, 7, 7, 7)), 0), NO_EXECUTE)

    def test_further_cells(self):
        for size, numbers in ((1, [0]), (2, [9, 1]), (3, [3, 1, 2])):
            for first, last in product((0, 1), repeat=2):
                for before in range(3):
                    guest = guest_with(numbers, at=15 - before, pages=rights(6 + first, 7, 7, 7)[:1] + (
                        (1, 6 + last), (2, 7), (3, 7)))
                    ahead = size > before + 1
                    right = first and (last or not ahead)
                    result = self.fetched(guest, 15 - before)
                    self.assertEqual(result == NO_EXECUTE, not right)

    def test_the_number_comes_before_further_cells(self):
        guest = guest_with([19, 0, 0], at=15, pages=rights(7, 0, 0, 0))
        self.same_kind(self.fetched(guest, 15), INVALID)
        guest = guest_with([3, 0, 0], at=15, pages=rights(7, 0, 0, 0))
        self.same_kind(self.fetched(guest, 15), NO_EXECUTE)

    def test_the_page_of_the_third_cell(self):
        guest = guest_with([3, 0, 0], at=14, pages=rights(1, 0, 0, 0))
        self.same_kind(self.fetched(guest, 14), NO_EXECUTE)
        guest = guest_with([3, 0, 0], at=13, pages=rights(1, 0, 0, 0))
        self.same_kind(self.fetched(guest, 13), (("set", (0, 0)), None))

    def test_as_the_machine_is_now(self):
        machine = Machine(guest_with([1, 5]))
        machine.frames[0][1] = 6
        self.assertEqual(fetch_at(machine, 0), (("print", (6,)), None))
        machine.pages[0] = (1, 7)
        self.assertEqual(fetch_at(machine, 0), (("halt", ()), None))
        machine.pages[0] = (0, 6)
        self.assertEqual(fetch_at(machine, 0), NO_EXECUTE)

    def test_the_level_does_not_matter(self):
        machine = Machine(guest_with([15], pages=PLAIN_PAGES))
        machine.processors[0].level = 0
        self.assertEqual(fetch_at(machine, 0), (("enable", ()), None))


if __name__ == "__main__":
    unittest.main()
