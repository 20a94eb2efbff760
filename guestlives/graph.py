"""The graph of the blocks that can be made from a machine (point 107)."""

from guestlives.limits import ADDRESSES
from guestlives.making import make_block


def row_of(block):
    """Return the number of a block's parts and the tuple of the addresses to which its exits lead."""
    targets = [block.exit_address(way) for way in block.exits()]
    return (len(block.parts), tuple(sorted(set(targets))))


def block_graph(machine, level, policy, longest):
    """Return the dict from the entries of blocks to their numbers of parts and their targets."""
    found = {}
    for entry in range(ADDRESSES):
        block = make_block(machine, entry, level, policy, longest)
        if block is not None:
            found[entry] = row_of(block)
    return found
