"""Listings of pages (point 32)."""

from guestlives.errors import SettingError
from guestlives.instructions import format_instruction
from guestlives.limits import CELLS, PAGES
from guestlives.ops import decode, encode


def instruction_at(numbers):
    """Return the instruction whose encoding a list of numbers begins with, or None."""
    instruction = decode(numbers)
    if instruction is None:
        return None
    name, operands = instruction
    cells = encode(name, operands)
    # Decoding takes any number, encoding gives only those in range.
    return instruction if cells == numbers[:len(cells)] else None


def list_page(guest, page):
    """Return the list of the pairs (address, text) of the cells of a page."""
    if page < 0 or page >= PAGES:
        raise SettingError("page")
    numbers = list(guest.frames[guest.pages[page][0]])
    rows = []
    offset = 0
    while offset < CELLS:
        instruction = instruction_at(numbers[offset:])
        address = page * CELLS + offset
        if instruction is None:
            rows.append((address, f"cell {numbers[offset]}"))
            offset = offset + 1
        else:
            name, operands = instruction
            rows.append((address, format_instruction(name, operands)))
            offset = offset + 1 + len(operands)
    return rows
