"""Point 32."""

import unittest

from checks import Checks, guest_of, guest_with
from guestlives.errors import SettingError
from guestlives.guest import Guest
from guestlives.listing import list_page


class TestListing(Checks):
    def test_instructions_and_cells(self):
        guest = guest_with([3, 0, 5, 3, 4, 5, 19, 8, 63, 3, 8, 64, 3, 255, 14, 1])
        self.same_kind(list_page(guest, 0), [
            (0, "set r0 5"), (3, "cell 3"), (4, "cell 4"), (5, "cell 5"),
            (6, "cell 19"), (7, "store 63 r3"), (10, "cell 8"), (11, "cell 64"), (12, "cell 3"), (13, "cell 255"),
            (14, "cell 14"), (15, "cell 1"),
        ])

    def test_within_the_page(self):
        guest = guest_with([9], at=15)
        self.assertEqual(list_page(guest, 0)[-1], (15, "cell 9"))
        guest = guest_with([9, 63], at=14)
        self.assertEqual(list_page(guest, 0)[-1], (14, "jump 63"))
        self.assertEqual(list_page(guest, 0)[:2], [(0, "halt"), (1, "halt")])
        guest = guest_with([3, 1], at=14)
        self.assertEqual(list_page(guest, 0)[-2:], [(14, "cell 3"), (15, "cell 1")])

    def test_by_the_page_table(self):
        guest = guest_of(("print", (7,)), at=34, pages=((0, 7), (3, 0), (3, 0), (1, 7)))
        self.assertEqual(guest.frames[3][2:4], (1, 7))
        for page in (1, 2):
            rows = list_page(guest, page)
            self.assertEqual(rows[:4], [(16 * page, "halt"), (16 * page + 1, "halt"), (16 * page + 2, "print 7"),
                                        (16 * page + 4, "halt")])
            self.assertEqual(len(rows), 15)
        self.assertEqual(list_page(guest, 3), [(48 + at, "halt") for at in range(16)])

    def test_the_whole_page_is_listed(self):
        guest = Guest([[18] * 16, [200] * 16, [1] * 16, [7] * 16])
        self.assertEqual(list_page(guest, 0), [(at, "lower") for at in range(16)])
        self.assertEqual(list_page(guest, 1), [(16 + at, "cell 200") for at in range(16)])
        self.assertEqual(list_page(guest, 2), [(32 + at, "print 1") for at in range(0, 16, 2)])
        self.assertEqual(list_page(guest, 3), [(48 + at, "cell 7") for at in range(16)])

    def test_wrong_pages(self):
        for page in (-1, 4, 63):
            self.refuses(SettingError, {"name": "page"}, list_page, Guest.blank(), page)


if __name__ == "__main__":
    unittest.main()
