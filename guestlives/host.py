"""The host: a guest run by blocks, as a policy says (points 65 to 77)."""

from guestlives.errors import ActionError
from guestlives.execute import can_take, device_write, inspect_event, step, take
from guestlives.flush import flush
from guestlives.limits import PROCESSORS
from guestlives.machine import Machine
from guestlives.making import is_same, make_block
from guestlives.notice import is_hit
from guestlives.ops import is_linkable
from guestlives.perform import deferred_at, drain, has_part, perform
from guestlives.store import BlockStore
from guestlives.trial import check_action, check_settings


def check_host_action(action):
    """Raise the error of a string that is no action of a host."""
    check_action(action)
    if action[0] == "t":
        raise ActionError(action)


def host_actions(schedule):
    """Return a new list of the actions of a schedule, all of which a host can do."""
    # The schedule may be the host's or the debugger's own list, which changes with each action.
    actions = list(schedule)
    for action in actions:
        check_host_action(action)
    return actions


class Host:
    """A guest with the blocks that were made of it, and all its events and actions so far."""

    COUNTS = ("placed", "found", "followed", "checked", "invalidated", "left", "polled", "plain")

    def __init__(self, guest, policy, *, slots=4, longest=4):
        check_settings(slots, longest)
        self.machine = Machine(guest)
        self.policy = policy
        self.store = BlockStore(slots)
        self.longest = longest
        self.events = []
        self.schedule = []
        self.matching = []
        self.counts = {name: 0 for name in self.COUNTS}
        self.seats = [None] * PROCESSORS
        self.came = [None] * PROCESSORS
        self.prepared = [None] * PROCESSORS
        self.buffers = [[] for _ in range(PROCESSORS)]

    def do(self, action):
        """Do an action and return the list of its events."""
        check_host_action(action)
        self.schedule.append(action)
        if action[0] != "p":
            self.matching.append(action)
        events = self.act(action)
        self.events.extend(events)
        return events

    def run(self, schedule):
        """Do all actions of a schedule in order and return the list of their events."""
        actions = host_actions(schedule)
        events = []
        for action in actions:
            events.extend(self.do(action))
        return events

    def view(self):
        """Return the state that the guest stands for, a new machine."""
        made = self.machine.copy()
        for p, processor in enumerate(made.processors):
            flush(processor, self.deferred(p))
        for buffer in self.buffers:
            drain(made, list(buffer))
        return made

    def act(self, action):
        """Do an action, known to be one of a host, and return the list of its events."""
        if action == "d":
            events, changes = device_write(self.machine)
            self.notice(changes, None)
            return events
        p = int(action[1])
        if action[0] == "g":
            return self.go(p)
        if action[0] == "i":
            return [self.inspected(p)]
        if action[0] == "p":
            self.prepare(p)
        else:
            processor = self.machine.processors[p]
            processor.pending = True
        return []

    def block_in(self, slot):
        """Return the block in a slot."""
        return self.store.slots[slot]

    def deferred(self, p):
        """Return the deferred values of processor p."""
        if self.seats[p] is None:
            return {}
        slot, index = self.seats[p]
        return deferred_at(self.block_in(slot), index)

    def inspected(self, p):
        """Return the event of an inspect of processor p."""
        shown = self.machine.copy()
        if "map_inspect" in self.policy:
            flush(shown.processors[p], self.deferred(p))
        return inspect_event(shown, p)

    def go(self, p):
        """Let processor p go and return the list of its events."""
        if self.machine.processors[p].halted:
            return []
        if self.seats[p] is not None:
            slot, index = self.seats[p]
            if has_part(self.block_in(slot), index):
                return self.do_part(p)
            self.seats[p] = None
        self.write_buffered(p)
        slot = self.link_slot(p)
        return self.go_by_lookup(p) if slot is None else self.go_by_link(p, slot)

    def link_slot(self, p):
        """Return the slot to which processor p, which is out, can go by link, or None."""
        return self.store.link_of(self.came[p]) if self.prepared[p] is None else None

    def go_by_link(self, p, slot):
        """Let processor p follow the link of its came, which leads to a slot."""
        pc = self.machine.processors[p].pc
        behind = self.block_in(self.came[p][0])
        backward = "poll_backward" in self.policy and pc <= behind.entry
        if ("poll_entry" in self.policy or backward) and self.poll(p):
            return self.take_interrupt(p)
        if "check_entry" in self.policy and not self.check(p, self.block_in(slot)):
            self.store.drop_link(self.came[p])
            return self.go_by_lookup(p)
        self.tally("followed", 1)
        return self.enter(p, slot)

    def go_by_lookup(self, p):
        """Let processor p go on by the block for its address, which is placed if there is none."""
        if self.poll(p):
            return self.take_interrupt(p)
        slot = self.found_slot(p)
        if slot is None:
            slot = self.placed_slot(p)
        else:
            self.tally("found", 1)
        self.prepared[p] = None
        if slot is None:
            return self.do_plain(p)
        if "no_links" not in self.policy:
            self.store.set_link(self.came[p], slot)
        return self.enter(p, slot)

    def found_slot(self, p):
        """Return the slot of the block that lookup finds for processor p, or None."""
        slot = self.looked_up(p)
        if slot is not None and "check_entry" in self.policy and not self.check(p, self.block_in(slot)):
            self.invalidate(slot, None)
            return None
        return slot

    def placed_slot(self, p):
        """Put a block for processor p into a slot and return the slot, or None if there is no block or no slot."""
        block = self.prepared[p]
        if block is not None and "check_entry" in self.policy and not self.check(p, block):
            block = None
        if block is None:
            block = self.made_block(p)
        slot = self.store.candidate(self.seats, self.policy)
        if block is None or slot is None:
            return None
        self.store.put(block, slot, self.policy)
        self.tally("placed", 1)
        return slot

    def looked_up(self, p):
        """Return the slot of a valid block for processor p, or None."""
        processor = self.machine.processors[p]
        return self.store.lookup(processor.pc, processor.level, self.policy)

    def made_block(self, p):
        """Return a new block for processor p, or None."""
        processor = self.machine.processors[p]
        return make_block(self.machine, processor.pc, processor.level, self.policy, self.longest)

    def poll(self, p):
        """Tell whether processor p can take an interrupt, and count the poll."""
        self.tally("polled", 1)
        return can_take(self.machine, p)

    def check(self, p, block):
        """Tell whether a block is the same for processor p, and count the cells."""
        self.tally("checked", len(list(block.captured_cells())))
        processor = self.machine.processors[p]
        return is_same(self.machine, block, processor.pc, processor.level)

    def tally(self, name, many):
        """Let one of the counts rise."""
        self.counts[name] = self.counts[name] + many

    def take_interrupt(self, p):
        """Let processor p take its interrupt instead of the action, and return the list of the events."""
        self.came[p] = None
        self.prepared[p] = None
        self.matching[-1] = f"t{p}"
        return take(self.machine, p)

    def enter(self, p, slot):
        """Let processor p do the first part of the block in a slot."""
        self.seats[p] = (slot, 0)
        self.came[p] = None
        return self.do_part(p)

    def do_part(self, p):
        """Let processor p do the part at its seat and return the list of the events."""
        slot, index = self.seats[p]
        block = self.block_in(slot)
        events, changes, taken = perform(self.machine, p, block, index, self.policy, self.buffers[p])
        self.notice(changes, p)
        self.move_on(p, taken)
        if self.seats[p] is None:
            self.write_buffered(p)
        elif "leave_self" in self.policy and any(is_hit(block, change, self.policy) for change in changes):
            self.leave(p)
        return events

    def move_on(self, p, taken):
        """Give processor p the seat or the came that it has behind the part at its seat."""
        slot, index = self.seats[p]
        block = self.block_in(slot)
        self.seats[p] = None
        self.came[p] = None
        if taken is None:
            return
        if has_part(block, index + 1) and block.parts[index + 1].address == self.machine.processors[p].pc:
            self.seats[p] = (slot, index + 1)
        elif is_linkable(block.parts[index].name):
            self.came[p] = (slot, block.serial, (index, taken))

    def do_plain(self, p):
        """Let processor p do a plain instruction and return the list of the events."""
        self.came[p] = None
        events, changes = step(self.machine, p)
        self.notice(changes, p)
        self.tally("plain", 1)
        return events

    def write_buffered(self, p):
        """Write the buffered stores of processor p."""
        changes = drain(self.machine, self.buffers[p])
        self.notice(changes, p)

    def notice(self, changes, writer):
        """Notice changes one by one; the writer is a processor or None."""
        for change in changes:
            for slot in self.store.hits(change, self.policy):
                self.invalidate(slot, writer)
            if "track_prepared" in self.policy:
                self.drop_prepared(change)

    def drop_prepared(self, change):
        """Drop the prepared blocks that a change hits."""
        for p in range(PROCESSORS):
            block = self.prepared[p]
            if block is not None and is_hit(block, change, self.policy):
                self.prepared[p] = None

    def invalidate(self, slot, writer):
        """Invalidate the block in a slot; the writer is a processor or None."""
        if self.store.invalidate(slot, self.policy):
            self.tally("invalidated", 1)
        if "leave_other" not in self.policy:
            return
        for p in range(PROCESSORS):
            if p != writer and self.seats[p] is not None and self.seats[p][0] == slot:
                self.leave(p)

    def leave(self, p):
        """Let processor p leave its block in the midst."""
        if "map_leave" in self.policy:
            flush(self.machine.processors[p], self.deferred(p))
        self.seats[p] = None
        self.came[p] = None
        self.tally("left", 1)

    def prepare(self, p):
        """Make a block for processor p ahead, if it is out and would need one."""
        if self.seats[p] is not None:
            return
        self.write_buffered(p)
        if self.machine.processors[p].halted or self.prepared[p] is not None:
            return
        if self.link_slot(p) is None and self.looked_up(p) is None:
            self.prepared[p] = self.made_block(p)
