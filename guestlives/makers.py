"""Guests that write a program for a list of numbers and run it (points 121 and 122)."""

from guestlives.errors import SettingError
from guestlives.guest import build_guest
from guestlives.limits import NUMBERS
from guestlives.ops import op_number

MOST_MADE = 3

# Where both guests have, or write, the program that prints.
PRINTER = 48

# The cells that the instructions of the stamper for one number take.
STAMP_SIZE = 14


def check_numbers(numbers):
    """Raise the error of a list that is too long or has a number out of range."""
    if len(numbers) > MOST_MADE or any(number < 0 or number >= NUMBERS for number in numbers):
        raise SettingError("numbers")


def write_cell(address, number):
    """Return the instructions that write a number into the cell of an address."""
    return [("set", (0, number)), ("store", (address, 0))]


def printer_guest(numbers):
    """Return the guest that writes the prints of the numbers one behind the other and runs them."""
    check_numbers(numbers)
    program = []
    address = PRINTER
    for number in numbers:
        program.extend(write_cell(address, op_number("print")))
        program.extend(write_cell(address + 1, number))
        address = address + 2
    program.extend(write_cell(address, op_number("halt")))
    program.append(("jump", (PRINTER,)))
    return build_guest([(0, program)])


def stamper_guest(numbers):
    """Return the guest that writes each number into the same print and runs it."""
    check_numbers(numbers)
    program = []
    for index, number in enumerate(numbers):
        program.extend(write_cell(PRINTER + 1, number))
        program.extend(write_cell(PRINTER + 3, STAMP_SIZE * (index + 1)))
        program.append(("jump", (PRINTER,)))
    program.append(("halt", ()))
    return build_guest([(PRINTER, [("print", (0,)), ("jump", (0,))]), (0, program)])
