"""Fetching: the instruction that a processor would do next (point 33)."""

from guestlives.limits import EXECUTE
from guestlives.machine import next_address
from guestlives.ops import OPS, decode


def can_execute(machine, address):
    """Tell whether the page of an address has the execute right."""
    return machine.rights_at(address) & EXECUTE != 0


def fetch_at(machine, address):
    """Return (instruction, None) for the instruction at an address, or (None, kind of trap)."""
    if not can_execute(machine, address):
        return (None, "execute")
    number = machine.number_at(address)
    if number >= len(OPS):
        return (None, "invalid")
    cells = [next_address(address, at) for at in range(1 + len(OPS[number][1]))]
    if not all(can_execute(machine, cell) for cell in cells):
        return (None, "execute")
    return (decode([machine.number_at(cell) for cell in cells]), None)
