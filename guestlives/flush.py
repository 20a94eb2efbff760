"""Deferred values: where they come from and how a processor gets them (point 50)."""

from guestlives.execute import compared
from guestlives.parts import pairs_of


def sources(maker):
    """Return the registers that a maker needs, ascending and without duplicates."""
    if maker[0] in ("move", "compare"):
        return tuple(sorted(set(maker[1:])))
    return ()


def give(processor, value, maker):
    """Give a processor one value by its maker."""
    if maker[0] == "set":
        processor.regs[value] = maker[1]
    elif maker[0] == "move":
        processor.regs[value] = processor.regs[maker[1]]
    elif maker[0] == "compare":
        processor.zero, processor.less = compared(processor.regs[maker[1]], processor.regs[maker[2]])
    else:
        processor.zero, processor.less = maker[1:]


def flush(processor, deferred):
    """Give a processor its deferred values, one by one in ascending order."""
    for value, maker in pairs_of(dict(deferred)):
        give(processor, value, maker)


def flushed(processor, deferred):
    """Return a copy of a processor in which the deferred values are flushed."""
    made = processor.copy()
    flush(made, deferred)
    return made
