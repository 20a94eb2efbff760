"""Making blocks: the row of instructions that a host reads at once (points 46 to 49)."""

from guestlives.defer import translate
from guestlives.fetch import can_execute, fetch_at
from guestlives.limits import CELLS
from guestlives.machine import next_address
from guestlives.ops import ends_block, size_of
from guestlives.parts import Block, Part
from guestlives.trial import check_settings


def captured_at(machine, address):
    """Return the captured cell of an address as the machine is now."""
    frame, offset = machine.place(address)
    return (address // CELLS, offset, frame, machine.frames[frame][offset])


def capture_at(machine, address):
    """Return the part of the instruction at an address, or None if it cannot be fetched."""
    instruction, _ = fetch_at(machine, address)
    if instruction is None:
        return None
    name, operands = instruction
    size = size_of(name)
    captured = [captured_at(machine, next_address(address, at)) for at in range(size)]
    return Part(address, name, operands, size, captured)


def leaves_page(part, entry):
    """Tell whether a part has a cell in another page than that of the entry."""
    return any(cell[0] != entry // CELLS for cell in part.captured)


def with_steps(part, steps):
    """Return a new part with small steps in place of its own."""
    before, done, after, start_map, deed_map = steps
    return Part(
        part.address,
        part.name,
        part.operands,
        part.size,
        part.captured,
        before=before,
        done=done,
        after=after,
        start_map=start_map,
        deed_map=deed_map,
    )


def build_block(entry, level, parts, policy):
    """Return a block of new parts with the small steps of a policy."""
    steps = translate([(part.name, part.operands) for part in parts], level, policy)
    return Block(entry, level, [with_steps(part, row) for part, row in zip(parts, steps)])


def read_parts(machine, entry, policy, longest):
    """Return the list of the parts of the block at an entry, without small steps."""
    most = 1 if "single" in policy else longest
    parts = []
    address = entry
    while len(parts) < most:
        part = capture_at(machine, address)
        if part is None or ("stop_page" in policy and leaves_page(part, entry)):
            break
        parts.append(part)
        if ends_block(part.name) or ("stop_store" in policy and part.name == "store"):
            break
        address = part.fall_through
    return parts


def make_block(machine, entry, level, policy, longest):
    """Return the block at an entry as the machine is now, or None if it has no part."""
    check_settings(0, longest)
    parts = read_parts(machine, entry, policy, longest)
    return build_block(entry, level, parts, policy) if len(parts) > 0 else None


def is_cell_same(machine, cell):
    """Tell whether a captured cell would be read in the same way now."""
    page, offset, frame, number = cell
    return (
        machine.pages[page][0] == frame
        and can_execute(machine, page * CELLS)
        and machine.frames[frame][offset] == number
    )


def is_same(machine, block, pc, level):
    """Tell whether a block is the one that belongs to an address and a level now."""
    if block.entry != pc or block.level != level:
        return False
    return all([is_cell_same(machine, cell) for cell in block.captured_cells()])
