"""Blocks and their parts (points 43 to 45)."""

from guestlives.machine import next_address
from guestlives.ops import is_jump, is_linkable


def pairs_of(table):
    """Return the tuple of the pairs (key, value) of a dict in ascending order."""
    return tuple(sorted(table.items()))


def ways_out(name):
    """Return what `taken` can be behind an instruction from which a link can lead."""
    if name == "jump":
        return (1,)
    if is_jump(name):
        return (0, 1)
    return (0,) if is_linkable(name) else ()


class Part:
    """One instruction of a block, with the cells that were read for it and its small steps."""

    def __init__(
        self, address, name, operands, size, captured, *, before=(), done=True, after=(), start_map=(), deed_map=()
    ):
        self.address = address
        self.name = name
        self.operands = tuple(operands)
        self.size = size
        self.captured = tuple([tuple(cell) for cell in captured])
        self.before = tuple(before)
        self.done = done
        self.after = tuple(after)
        self.start_map = dict(start_map)
        self.deed_map = dict(deed_map)

    @property
    def fall_through(self):
        """The address behind the instruction."""
        return next_address(self.address, self.size)

    def address_after(self, taken):
        """Return the address to which the instruction leads, by a jump if taken is 1."""
        return self.operands[0] if taken == 1 else self.fall_through

    def key(self):
        """Return the tuple by which parts are compared."""
        return (
            self.address,
            self.name,
            self.operands,
            self.size,
            self.captured,
            self.before,
            self.done,
            self.after,
            pairs_of(self.start_map),
            pairs_of(self.deed_map),
        )


class Block:
    """A row of parts that a host does one behind the other."""

    def __init__(self, entry, level, parts):
        self.entry = entry
        self.level = level
        self.parts = list(parts)
        self.serial = 0
        self.valid = True
        self.links = {}
        self.counts = {}

    def __iter__(self):
        return iter(self.parts)

    def captured_cells(self):
        """Yield the captured cells of all parts in order."""
        for part in self.parts:
            yield from part.captured

    def exits(self):
        """Return the list of the linkable exits in ascending order."""
        found = []
        for index, part in enumerate(self.parts):
            following = [other.address for other in self.parts[index + 1:index + 2]]
            for taken in ways_out(part.name):
                if part.address_after(taken) not in following:
                    found.append((index, taken))
        return found

    def exit_address(self, way):
        """Return the address to which an exit leads."""
        index, taken = way
        return self.parts[index].address_after(taken)

    def key(self):
        """Return the tuple by which blocks are compared."""
        return (
            self.entry,
            self.level,
            tuple([part.key() for part in self.parts]),
            self.serial,
            self.valid,
            pairs_of(self.links),
            pairs_of(self.counts),
        )
