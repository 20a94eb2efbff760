"""Guests: cells, pages, starts, handlers and device writes (points 10 to 12)."""

from guestlives.errors import GuestError
from guestlives.limits import ADDRESSES, CELLS, FRAMES, MOST_WRITES, NUMBERS, PAGES, PROCESSORS, RIGHTS
from guestlives.machine import next_address
from guestlives.ops import encode

PLAIN_PAGES = ((0, 7), (1, 7), (2, 7), (3, 7))


def is_row(row, limits):
    """Tell whether a row has one number for each limit, from 0 to below the limit."""
    if len(row) != len(limits):
        return False
    return all([0 <= number < limit for number, limit in zip(row, limits)])


def are_rows(rows, limits):
    """Tell whether each of the rows is one for the limits."""
    return all(is_row(row, limits) for row in rows)


def kept_rows(rows):
    """Return rows as a tuple of tuples."""
    return tuple([tuple(row) for row in rows])


def wrong_field(guest):
    """Return the name of a guest's first wrong field, or None."""
    addresses = (ADDRESSES,) * PROCESSORS
    starts = [0 if start is None else start for start in guest.starts]
    if len(guest.frames) != FRAMES or not are_rows(guest.frames, (NUMBERS,) * CELLS):
        return "frames"
    if len(guest.pages) != PAGES or not are_rows(guest.pages, (FRAMES, RIGHTS)):
        return "pages"
    if not is_row(starts, addresses):
        return "starts"
    if not is_row(guest.handlers, addresses):
        return "handlers"
    if len(guest.writes) > MOST_WRITES or not are_rows(guest.writes, (FRAMES, CELLS, NUMBERS)):
        return "writes"
    return None


class Guest:
    """What a machine starts with."""

    def __init__(self, frames, pages=PLAIN_PAGES, starts=(0, None), handlers=(60, 60), writes=()):
        self.frames = kept_rows(frames)
        self.pages = kept_rows(pages)
        self.starts = tuple(starts)
        self.handlers = tuple(handlers)
        self.writes = kept_rows(writes)
        field = wrong_field(self)
        if field is not None:
            raise GuestError(field)

    @staticmethod
    def blank():
        """Return the guest with the defaults, all its cells 0."""
        return Guest([[0] * CELLS for _ in range(FRAMES)])

    def key(self):
        """Return the tuple of the five fields."""
        return (self.frames, self.pages, self.starts, self.handlers, self.writes)

    def fits(self, *, other=True, device=True):
        """Tell whether the guest fits an environment."""
        return (other or self.starts[1] is None) and (device or len(self.writes) == 0)


def build_guest(programs, *, pages=PLAIN_PAGES, starts=(0, None), handlers=(60, 60), writes=()):
    """Return the guest that has the programs, pairs (address, list of instructions), in its cells."""
    frames = [[0] * CELLS for _ in range(FRAMES)]
    # The page table must be known to be right before cells are placed by it.
    checked = Guest(frames, pages, starts, handlers, writes)
    for first, instructions in programs:
        address = first
        for name, operands in instructions:
            for number in encode(name, operands):
                frame = checked.pages[address // CELLS][0]
                frames[frame][address % CELLS] = number
                address = next_address(address, 1)
    return Guest(frames, pages, starts, handlers, writes)
