"""Stops: when a debugger stops (point 127)."""

from guestlives.errors import SettingError
from guestlives.limits import ADDRESSES, CELLS, FRAMES, NUMBERS
from guestlives.plaintext import EVENT_PARTS
from guestlives.trial import check_processor, check_range


class Stop:
    """A stop that is never met."""

    def __call__(self, machine, events):
        return False


class AddressStop(Stop):
    """A stop that is met when a processor is at an address and not halted."""

    def __init__(self, p, address):
        check_processor(p)
        check_range("address", address, 0, ADDRESSES - 1)
        self.p = p
        self.address = address

    def __call__(self, machine, events):
        processor = machine.processors[self.p]
        return not processor.halted and processor.pc == self.address


class CellStop(Stop):
    """A stop that is met when a cell holds a number."""

    def __init__(self, frame, offset, number):
        check_range("frame", frame, 0, FRAMES - 1)
        check_range("offset", offset, 0, CELLS - 1)
        check_range("number", number, 0, NUMBERS - 1)
        self.frame = frame
        self.offset = offset
        self.number = number

    def __call__(self, machine, events):
        return machine.frames[self.frame][self.offset] == self.number


class EventStop(Stop):
    """A stop that is met when there is an event with a name."""

    def __init__(self, name):
        if name not in EVENT_PARTS:
            raise SettingError("name")
        self.name = name

    def __call__(self, machine, events):
        return any(event[0] == self.name for event in events)
