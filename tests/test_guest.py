"""Points 10, 11 and 12."""

import unittest

from checks import Checks, blank_frames
from guestlives.errors import GuestError, InstructionError
from guestlives.guest import PLAIN_PAGES, Guest, build_guest

BLANK = ((0,) * 16,) * 4


def wrong_frames():
    for count in (0, 1, 3, 5):
        yield [[0] * 16 for _ in range(count)]
    for at in range(4):
        for row in ([], [0] * 15, [0] * 17, [0] * 15 + [256], [-1] + [0] * 15):
            frames = blank_frames()
            frames[at] = row
            yield frames


WRONG_PAGES = (
    (), ((0, 7),) * 3, ((0, 7),) * 5, ((0, 7), (1, 7), (2, 7), (4, 7)), ((-1, 7), (1, 7), (2, 7), (3, 7)),
    ((0, 7), (1, 8), (2, 7), (3, 7)), ((0, 7), (1, -1), (2, 7), (3, 7)), ((0, 7), (1, 7), (2,), (3, 7)),
    ((0, 7), (1, 7), (2, 7, 0), (3, 7)), ((0, 7), (), (2, 7), (3, 7)),
)
WRONG_STARTS = ((), (0,), (0, None, None), (64, None), (0, 64), (-1, 0), (None, -1))
WRONG_HANDLERS = ((), (0,), (0, 0, 0), (64, 0), (0, 64), (-1, 0), (0, -1))
WRONG_WRITES = (
    ((0, 0, 0),) * 65, ((4, 0, 0),), ((-1, 0, 0),), ((0, 16, 0),), ((0, -1, 0),), ((0, 0, 256),), ((0, 0, -1),),
    ((0, 0),), ((0, 0, 0, 0),), ((),), ((0, 0, 0), (0, 0, 0), (3, 15, 256)),
)


class TestGuest(Checks):
    def test_defaults(self):
        guest = Guest(blank_frames())
        self.same_kind(guest.key(), (BLANK, PLAIN_PAGES, (0, None), (60, 60), ()))
        self.same_kind(PLAIN_PAGES, ((0, 7), (1, 7), (2, 7), (3, 7)))
        self.same_kind(Guest.blank().key(), guest.key())

    def test_kept_as_tuples(self):
        guest = Guest(blank_frames(), [[3, 0], (0, 7), [1, 2], [0, 1]], [None, 63], [0, 63], [[3, 15, 255], (0, 0, 0)])
        self.same_kind(guest.frames, BLANK)
        self.same_kind(guest.pages, ((3, 0), (0, 7), (1, 2), (0, 1)))
        self.same_kind(guest.starts, (None, 63))
        self.same_kind(guest.handlers, (0, 63))
        self.same_kind(guest.writes, ((3, 15, 255), (0, 0, 0)))
        self.same_kind(guest.key(), (guest.frames, guest.pages, guest.starts, guest.handlers, guest.writes))

    def test_named_arguments(self):
        guest = Guest(frames=BLANK, pages=PLAIN_PAGES, starts=(1, 2), handlers=(3, 4), writes=())
        self.assertEqual(guest.key(), (BLANK, PLAIN_PAGES, (1, 2), (3, 4), ()))

    def test_the_lists_are_copied(self):
        frames = [[1] * 16, [2] * 16, [3] * 16, [255] * 16]
        pages = [[0, 7], [1, 7], [2, 7], [3, 7]]
        writes = [[0, 1, 2]]
        guest = Guest(frames, pages, [0, None], [60, 60], writes)
        before = guest.key()
        frames[0][0] = 9
        pages[0][0] = 3
        writes[0][2] = 9
        writes.append([0, 0, 0])
        self.assertEqual(guest.key(), before)
        self.assertEqual(guest.frames[0][0], 1)

    def test_most_writes(self):
        self.assertEqual(len(Guest(blank_frames(), writes=[(0, 0, 0)] * 64).writes), 64)

    def test_wrong_fields(self):
        for frames in wrong_frames():
            self.refuses(GuestError, {"field": "frames"}, Guest, frames)
        for field, values in (
            ("pages", WRONG_PAGES), ("starts", WRONG_STARTS), ("handlers", WRONG_HANDLERS), ("writes", WRONG_WRITES),
        ):
            for value in values:
                self.refuses(GuestError, {"field": field}, Guest, blank_frames(), **{field: value})

    def test_the_first_wrong_field(self):
        wrong = {"frames": (), "pages": (), "starts": (), "handlers": (), "writes": ((),)}
        right = {"frames": BLANK, "pages": PLAIN_PAGES, "starts": (0, None), "handlers": (60, 60), "writes": ()}
        fields = list(wrong)
        for first in range(5):
            named = {field: wrong[field] if at >= first else right[field] for at, field in enumerate(fields)}
            self.refuses(GuestError, {"field": fields[first]}, Guest, **named)

    def test_fits(self):
        write = ((0, 0, 0),)
        for starts, writes, needs_other, needs_device in (
            ((0, None), (), False, False), ((0, 0), (), True, False), ((0, None), write, False, True),
            ((None, 5), write, True, True), ((None, None), (), False, False),
        ):
            guest = Guest(BLANK, starts=starts, writes=writes)
            self.assertIs(guest.fits(), True)
            for other in (True, False):
                for device in (True, False):
                    fits = (other or not needs_other) and (device or not needs_device)
                    self.assertIs(guest.fits(other=other, device=device), fits)
            self.assertIs(guest.fits(other=False), not needs_other)
            self.assertIs(guest.fits(device=False), not needs_device)

    def test_fits_takes_keywords_only(self):
        with self.assertRaises(TypeError):
            Guest.blank().fits(True)


class TestBuild(Checks):
    def test_cells_one_behind_the_other(self):
        guest = build_guest([(14, [("set", (1, 200)), ("halt", ()), ("jump", (63,))])])
        self.assertEqual(guest.frames[0], (0,) * 14 + (3, 1))
        self.assertEqual(guest.frames[1], (200, 0, 9, 63) + (0,) * 12)
        self.assertEqual(guest.key()[1:], (PLAIN_PAGES, (0, None), (60, 60), ()))

    def test_behind_63_is_0(self):
        guest = build_guest([(63, [("set", (2, 7))])])
        self.assertEqual(guest.frames[3][15], 3)
        self.assertEqual(guest.frames[0][:3], (2, 7, 0))

    def test_by_the_page_table(self):
        pages = [[2, 0], [2, 7], [0, 7], [1, 7]]
        guest = build_guest([(0, [("print", (5,))]), (32, [("print", (6,))])], pages=pages, starts=[1, 2],
                            handlers=[3, 4], writes=[[0, 1, 2]])
        self.assertEqual(guest.frames[2][:3], (1, 5, 0))
        self.assertEqual(guest.frames[0][:3], (1, 6, 0))
        self.same_kind(guest.key()[1:], (((2, 0), (2, 7), (0, 7), (1, 7)), (1, 2), (3, 4), ((0, 1, 2),)))

    def test_later_cells_overwrite(self):
        pages = ((0, 7), (0, 7), (2, 7), (3, 7))
        guest = build_guest([(0, [("print", (5,)), ("print", (6,))]), (17, [("set", (3, 9))])], pages=pages)
        self.assertEqual(guest.frames[0][:5], (1, 3, 3, 9, 0))

    def test_nothing(self):
        self.assertEqual(build_guest([]).key(), Guest.blank().key())
        self.assertEqual(build_guest([(5, [])]).key(), Guest.blank().key())

    def test_guest_errors_come_first(self):
        wrong = [(0, [("nothing", ())])]
        for field, values in (
            ("pages", WRONG_PAGES), ("starts", WRONG_STARTS), ("handlers", WRONG_HANDLERS), ("writes", WRONG_WRITES),
        ):
            for value in values:
                self.refuses(GuestError, {"field": field}, build_guest, wrong, **{field: value})

    def test_the_first_wrong_instruction(self):
        for programs, name in (
            ([(0, [("nothing", ())])], "nothing"),
            ([(0, [("halt", ()), ("set", (4, 0)), ("nothing", ())])], "set"),
            ([(0, [("halt", ())]), (9, [("jump", (64,))]), (3, [("nothing", ())])], "jump"),
            ([(0, [("halt", (0,))])], "halt"),
            ([(0, [("add", (0,))])], "add"),
        ):
            self.refuses(InstructionError, {"name": name}, build_guest, programs)

    def test_keywords_only(self):
        with self.assertRaises(TypeError):
            build_guest([], PLAIN_PAGES)

    def test_arguments_stay(self):
        programs = [(0, [("print", (5,))])]
        pages = [[0, 7], [1, 7], [2, 7], [3, 7]]
        build_guest(programs, pages=pages)
        self.assertEqual(programs, [(0, [("print", (5,))])])
        self.assertEqual(pages, [[0, 7], [1, 7], [2, 7], [3, 7]])


if __name__ == "__main__":
    unittest.main()
