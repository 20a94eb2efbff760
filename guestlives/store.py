"""The store of blocks: slots, and the links between the blocks in them (points 58 to 63)."""

from guestlives.errors import SettingError
from guestlives.notice import is_hit
from guestlives.trial import check_settings


def least_serial(blocks):
    """Return the slot of the block with the least serial, of pairs (slot, block), or None without pairs."""
    found = sorted([(block.serial, slot) for slot, block in blocks])
    return found[0][1] if len(found) > 0 else None


class BlockStore:
    """Slots for blocks, numbered from 0."""

    def __init__(self, count):
        check_settings(count, 1)
        self.slots = [None] * count
        self.serial = 0

    def lookup(self, entry, level, policy):
        """Return the lowest slot with a valid block for an entry and, with key_level, for a level, or None."""
        for slot, block in self.filled():
            if block.valid and block.entry == entry and ("key_level" not in policy or block.level == level):
                return slot
        return None

    def candidate(self, seats, policy):
        """Return the slot for a new block, or None if there is none."""
        held = [seat[0] for seat in seats if seat is not None] if "hold_slot" in policy else []
        for slot, block in enumerate(self.slots):
            if block is None and slot not in held:
                return slot
        free = [(slot, block) for slot, block in self.filled() if slot not in held]
        invalid = least_serial([(slot, block) for slot, block in free if not block.valid])
        return invalid if invalid is not None else least_serial(free)

    def put(self, block, slot, policy):
        """Put a block into a slot and give it its serial."""
        self.check_slot(slot)
        if "clear_links" in policy:
            self.unlink(slot)
        self.serial = self.serial + 1
        block.serial = self.serial
        self.slots[slot] = block

    def hits(self, change, policy):
        """Return the list of the slots whose block a change hits."""
        return [slot for slot, block in self.filled() if is_hit(block, change, policy)]

    def invalidate(self, slot, policy):
        """Make the block in a slot invalid and tell whether it was valid."""
        self.check_slot(slot)
        block = self.slots[slot]
        if block is None:
            return False
        if "cut_links" in policy:
            self.unlink(slot)
        was_valid = block.valid
        block.valid = False
        return was_valid

    def holds(self, came):
        """Tell whether a came counts: its slot holds the block with its serial."""
        if came is None:
            return False
        slot, serial, _ = came
        return (slot, serial) in [(place, block.serial) for place, block in self.filled()]

    def link_of(self, came):
        """Return the slot to which the link of a came leads, or None."""
        if not self.holds(came):
            return None
        slot, _, way = came
        return self.slots[slot].links.get(way, None)

    def set_link(self, came, slot):
        """Make the link of a came lead to a slot, if the came counts and its block is valid."""
        self.check_slot(slot)
        if self.holds(came) and self.slots[came[0]].valid:
            links = self.slots[came[0]].links
            links[came[2]] = slot

    def drop_link(self, came):
        """Remove the link of a came, if the came counts."""
        if self.holds(came):
            self.slots[came[0]].links.pop(came[2], None)

    def all_links(self):
        """Return the sorted list of the links (slot, exit, target slot) of all blocks."""
        found = []
        for slot, block in self.filled():
            found.extend([(slot, way, target) for way, target in block.links.items()])
        return sorted(found)

    def key(self):
        """Return the tuple by which stores are compared."""
        return (tuple([None if block is None else block.key() for block in self.slots]), self.serial)

    def filled(self):
        """Return the list of the pairs (slot, block) of the slots that are not empty."""
        return [(slot, block) for slot, block in enumerate(self.slots) if block is not None]

    def check_slot(self, slot):
        """Raise the error of a slot that does not exist."""
        if slot < 0 or slot >= len(self.slots):
            raise SettingError("slot")

    def unlink(self, slot):
        """Remove all links that lead to a slot."""
        for _, block in self.filled():
            for way in list(block.links):
                if block.links[way] == slot:
                    del block.links[way]
