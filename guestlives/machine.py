"""Processors and machines: the states of a guest (points 3, 4 and 13)."""

from guestlives.limits import ADDRESSES, CELLS, REGISTERS


def next_address(address, size):
    """Return the address so many cells behind an address."""
    return (address + size) % ADDRESSES


class Processor:
    """The state of a processor, at first that of the start."""

    def __init__(self, start):
        self.pc = 0 if start is None else start
        self.regs = [0] * REGISTERS
        self.zero = 0
        self.less = 0
        self.level = 1
        self.enabled = False
        self.pending = False
        self.saved = (0, 1, False)
        self.halted = start is None

    def key(self):
        """Return the tuple by which states are compared."""
        return (
            self.pc,
            tuple(self.regs),
            (self.zero, self.less),
            self.level,
            self.enabled,
            self.pending,
            self.saved,
            self.halted,
        )

    def copy(self):
        """Return an equal state that shares nothing that can change."""
        made = Processor(self.pc)
        made.regs = list(self.regs)
        made.zero = self.zero
        made.less = self.less
        made.level = self.level
        made.enabled = self.enabled
        made.pending = self.pending
        made.saved = self.saved
        made.halted = self.halted
        return made


class Machine:
    """The state of a guest, at first that of the start."""

    def __init__(self, guest):
        self.guest = guest
        self.frames = [list(frame) for frame in guest.frames]
        self.pages = list(guest.pages)
        self.processors = [Processor(start) for start in guest.starts]
        self.written = 0

    def key(self):
        """Return the tuple by which states are compared."""
        return (
            tuple([tuple(frame) for frame in self.frames]),
            tuple(self.pages),
            tuple([processor.key() for processor in self.processors]),
            self.written,
        )

    def copy(self):
        """Return an equal state that shares nothing that can change."""
        made = Machine(self.guest)
        made.frames = [list(frame) for frame in self.frames]
        made.pages = list(self.pages)
        made.processors = [processor.copy() for processor in self.processors]
        made.written = self.written
        return made

    def place(self, address):
        """Return the frame and the offset to which an address leads now."""
        return (self.pages[address // CELLS][0], address % CELLS)

    def number_at(self, address):
        """Return the number in the cell to which an address leads now."""
        frame, offset = self.place(address)
        return self.frames[frame][offset]

    def rights_at(self, address):
        """Return the rights that the page of an address has now."""
        return self.pages[address // CELLS][1]
