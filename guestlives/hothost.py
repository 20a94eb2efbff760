"""The hot host: a host that joins blocks along links that are used often (points 115 to 120)."""

from guestlives.host import Host
from guestlives.joining import join_addresses, make_joined
from guestlives.limits import MOST_HOT
from guestlives.trial import check_range


class HotHost(Host):
    """A host that joins two blocks when the link between them has been used `hot` times."""

    COUNTS = ("placed", "found", "followed", "checked", "invalidated", "left", "polled", "plain", "joined")

    def __init__(self, guest, policy, *, slots=4, longest=4, hot=2):
        super().__init__(guest, policy, slots=slots, longest=longest)
        check_range("hot", hot, 1, MOST_HOT)
        self.hot = hot

    def go_by_link(self, p, slot):
        """Let processor p follow the link of its came, or go on by the block that is joined instead."""
        if self.count_use(p) == self.hot and "single" not in self.policy:
            self.join_blocks(p, slot)
        return self.go_by_lookup(p) if self.came[p] is None else super().go_by_link(p, slot)

    def count_use(self, p):
        """Count a use of the link of processor p's came and return the number of its uses."""
        slot, _, way = self.came[p]
        counts = self.block_in(slot).counts
        counts[way] = counts.get(way, 0) + 1
        return counts[way]

    def join_blocks(self, p, slot):
        """Put the block along the link of processor p's came into a slot, if there is one that is longer."""
        first_slot, _, way = self.came[p]
        first = self.block_in(first_slot)
        second = self.block_in(slot)
        if not first.valid or not second.valid:
            return
        level = self.machine.processors[p].level
        path = join_addresses(first, way[0], second)
        block = make_joined(self.machine, path, level, self.policy, 2 * self.longest)
        if block is None or len(block.parts) <= len(first.parts):
            return
        if self.store.candidate(self.seats, self.policy) is None:
            return
        self.store.invalidate(first_slot, self.policy)
        self.tally("invalidated", 1)
        self.store.put(block, self.store.candidate(self.seats, self.policy), self.policy)
        self.tally("joined", 1)
        self.came[p] = None
