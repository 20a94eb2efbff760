"""What instructions, traps, interrupts and the device do to a machine (points 34 to 38)."""

from guestlives.fetch import fetch_at
from guestlives.limits import CELLS, NUMBERS, READ, WRITE
from guestlives.machine import next_address
from guestlives.ops import is_supervisor, size_of


def trap_kind(machine, p, name, operands, level):
    """Return the kind of trap that an instruction of processor p does at a level, or None."""
    if level == 0 and is_supervisor(name):
        return "level"
    if name == "call":
        return "call"
    if name == "load" and machine.rights_at(operands[1]) & READ == 0:
        return "read"
    if name == "store" and machine.rights_at(operands[0]) & WRITE == 0:
        return "write"
    return None


def flags_of(processor):
    """Return the tuple of the flags of a processor."""
    return (processor.zero, processor.less)


def trap(machine, p, kind, address):
    """Let processor p do a trap at the instruction at an address, and return its event."""
    processor = machine.processors[p]
    event = ("trap", p, kind, address, tuple(processor.regs), flags_of(processor))
    back = next_address(address, 1) if kind == "call" else address
    processor.saved = (back, processor.level, processor.enabled)
    processor.pc = machine.guest.handlers[p]
    processor.level = 1
    processor.enabled = False
    return event


def tell_deed(machine, p, name, operands):
    """Do one of the instructions that have an event."""
    processor = machine.processors[p]
    if name == "print":
        return ([("print", p, operands[0])], [], 0)
    if name == "show":
        return ([("print", p, processor.regs[operands[0]])], [], 0)
    processor.halted = True
    return ([("halt", p)], [], 0)


def compared(first, second):
    """Return the flags (zero, less) that comparing two numbers gives."""
    return (1 if first == second else 0, 1 if first < second else 0)


def value_deed(machine, p, name, operands):
    """Do one of the instructions that make a value."""
    processor = machine.processors[p]
    regs = processor.regs
    first, second = operands
    if name == "set":
        regs[first] = second
    elif name == "move":
        regs[first] = regs[second]
    elif name == "add":
        regs[first] = (regs[first] + regs[second]) % NUMBERS
    elif name == "load":
        regs[first] = machine.number_at(second)
    else:
        processor.zero, processor.less = compared(regs[first], regs[second])
    return ([], [], 0)


def store_deed(machine, p, name, operands):
    """Do a store."""
    address, source = operands
    frame, offset = machine.place(address)
    machine.frames[frame][offset] = machine.processors[p].regs[source]
    return ([], [("store", address // CELLS, frame, offset)], 0)


def jump_deed(machine, p, name, operands):
    """Do a jump."""
    processor = machine.processors[p]
    if name == "jumpz" and processor.zero != 1:
        return ([], [], 0)
    if name == "jumpl" and processor.less != 1:
        return ([], [], 0)
    processor.pc = operands[0]
    return ([], [], 1)


def page_deed(machine, p, name, operands):
    """Do one of the instructions that change a page."""
    page, number = operands
    frame, rights = machine.pages[page]
    machine.pages[page] = (number, rights) if name == "map" else (frame, number)
    return ([], [(name, page)], 0)


def state_deed(machine, p, name, operands):
    """Do one of the instructions that change the level or the interrupts."""
    processor = machine.processors[p]
    if name == "resume":
        processor.pc, processor.level, processor.enabled = processor.saved
    elif name == "lower":
        processor.level = 0
    else:
        processor.enabled = name == "enable"
    return ([], [], 0)


DEEDS = {
    "halt": tell_deed,
    "print": tell_deed,
    "show": tell_deed,
    "set": value_deed,
    "move": value_deed,
    "add": value_deed,
    "compare": value_deed,
    "load": value_deed,
    "store": store_deed,
    "jump": jump_deed,
    "jumpz": jump_deed,
    "jumpl": jump_deed,
    "map": page_deed,
    "right": page_deed,
    "enable": state_deed,
    "disable": state_deed,
    "resume": state_deed,
    "lower": state_deed,
}


def deed(machine, p, name, operands, address):
    """Let processor p do an instruction that does no trap, and return (events, changes, taken)."""
    action = DEEDS[name]
    machine.processors[p].pc = next_address(address, size_of(name))
    return action(machine, p, name, operands)


def step(machine, p):
    """Let processor p do one instruction, and return (events, changes)."""
    processor = machine.processors[p]
    if processor.halted:
        return ([], [])
    address = processor.pc
    instruction, kind = fetch_at(machine, address)
    if instruction is None:
        return ([trap(machine, p, kind, address)], [])
    name, operands = instruction
    kind = trap_kind(machine, p, name, operands, processor.level)
    if kind is not None:
        return ([trap(machine, p, kind, address)], [])
    events, changes, _ = deed(machine, p, name, operands, address)
    return (events, changes)


def can_take(machine, p):
    """Tell whether processor p can take its interrupt."""
    processor = machine.processors[p]
    return not processor.halted and processor.pending and processor.enabled


def take(machine, p):
    """Let processor p take its interrupt, if it can, and return the list of the events."""
    if not can_take(machine, p):
        return []
    processor = machine.processors[p]
    processor.pending = False
    return [trap(machine, p, "interrupt", processor.pc)]


def device_write(machine):
    """Do the next device write, if one is left, and return (events, changes)."""
    writes = machine.guest.writes
    if machine.written >= len(writes):
        return ([], [])
    frame, offset, number = writes[machine.written]
    machine.frames[frame][offset] = number
    machine.written = machine.written + 1
    return ([("device", frame, offset, number)], [("device", frame, offset)])


def inspect_event(machine, p):
    """Return the event of an inspect of processor p."""
    processor = machine.processors[p]
    return ("inspect", p, processor.pc, tuple(processor.regs), flags_of(processor), processor.level)
