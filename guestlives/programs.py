"""Guests of programs that are written as rows of instruction texts."""

from guestlives.guest import PLAIN_PAGES, build_guest
from guestlives.instructions import parse_instruction

PLAIN_HANDLERS = (60, 60)


def read_program(text):
    """Return the list of the instructions of a text, in which commas and spaces separate them."""
    return [parse_instruction(row) for row in text.split(", ")]


def guest_of_texts(programs, *, pages=PLAIN_PAGES, second_start=None, handlers=PLAIN_HANDLERS, writes=()):
    """Return the guest of programs, pairs (address, text), that starts at the first one."""
    first = programs[0][0]
    rows = [(address, read_program(text)) for address, text in programs]
    return build_guest(rows, pages=pages, starts=(first, second_start), handlers=handlers, writes=writes)
