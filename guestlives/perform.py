"""Doing one part of a block, with its small steps and buffered stores (points 66, 72 and 73)."""

from guestlives.execute import deed, trap, trap_kind
from guestlives.flush import flush
from guestlives.limits import CELLS


def has_part(block, index):
    """Tell whether there is a block that has a part with an index."""
    return block is not None and index < len(block.parts)


def deferred_at(block, index):
    """Return the deferred values of a processor whose seat is at a part."""
    return dict(block.parts[index].start_map) if has_part(block, index) else {}


def newest(buffer, frame, offset):
    """Return the number that was buffered last for a cell, or None."""
    found = None
    for place, at, number, _ in buffer:
        if (place, at) == (frame, offset):
            found = number
    return found


def drain(machine, buffer):
    """Write the buffered stores into their cells, empty the buffer and return the changes."""
    changes = []
    for frame, offset, number, page in buffer:
        machine.frames[frame][offset] = number
        changes.append(("store", page, frame, offset))
    buffer.clear()
    return changes


def buffer_store(machine, p, part, buffer):
    """Do a store that is written later."""
    address, source = part.operands
    processor = machine.processors[p]
    frame, offset = machine.place(address)
    buffer.append((frame, offset, processor.regs[source], address // CELLS))
    processor.pc = part.fall_through
    return ([], [], 0)


def buffered_load(machine, p, part, buffer):
    """Do a load that sees the processor's own buffered stores."""
    told = deed(machine, p, part.name, part.operands, part.address)
    target, address = part.operands
    frame, offset = machine.place(address)
    number = newest(buffer, frame, offset)
    if number is not None:
        machine.processors[p].regs[target] = number
    return told


def do_deed(machine, p, part, policy, buffer):
    """Do the deed of a part that does no trap, and return (events, changes, taken)."""
    processor = machine.processors[p]
    if not part.done:
        processor.pc = part.fall_through
        return ([], [], 0)
    if part.name == "store" and "prompt_store" not in policy:
        return buffer_store(machine, p, part, buffer)
    if part.name == "load":
        return buffered_load(machine, p, part, buffer)
    return deed(machine, p, part.name, part.operands, part.address)


def perform(machine, p, block, index, policy, buffer):
    """Let processor p do a part of a block, and return (events, changes, taken)."""
    part = block.parts[index]
    processor = machine.processors[p]
    flush(processor, part.before)
    kind = trap_kind(machine, p, part.name, part.operands, block.level)
    if kind is not None:
        if "map_fault" in policy:
            flush(processor, part.deed_map)
        return ([trap(machine, p, kind, part.address)], [], None)
    told = do_deed(machine, p, part, policy, buffer)
    flush(processor, part.after)
    return told
