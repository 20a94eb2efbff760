"""Exploring: what the schedules of a guest can show (points 41 and 42)."""

from guestlives.errors import SettingError
from guestlives.machine import Machine
from guestlives.plain import act

MOST_LENGTH = 6

SHOWING_ACTIONS = ("g0", "g1", "t0", "t1", "i0", "i1", "d")
RAISING_ACTIONS = ("r0", "r1")


def next_pairs(machine, k, wanted, actions):
    """Return the pairs (machine, k) to which the actions lead from a pair."""
    pairs = []
    for action in actions:
        after = machine.copy()
        events = act(after, action)
        if wanted[k:k + len(events)] == events:
            pairs.append((after, k + len(events)))
    return pairs


def can_output(guest, events, *, interrupts=False):
    """Tell whether the events are all events of some schedule of the guest."""
    wanted = list(events)
    actions = SHOWING_ACTIONS + RAISING_ACTIONS if interrupts else SHOWING_ACTIONS
    first = Machine(guest)
    found = {(first.key(), 0): True}
    waiting = [(first, 0)]
    while len(waiting) > 0:
        machine, k = waiting.pop()
        if k == len(wanted):
            return True
        for after, count in next_pairs(machine, k, wanted, actions):
            pair = (after.key(), count)
            if pair not in found:
                found[pair] = True
                waiting.append((after, count))
    return False


def possible_actions(machine):
    """Return the list of the actions that point 42 allows now."""
    actions = [f"g{p}" for p, processor in enumerate(machine.processors) if not processor.halted]
    if machine.written < len(machine.guest.writes):
        actions.append("d")
    return actions


def outputs_from(machine, events, length):
    """Return the list of the event lists of all schedules of a length that go on from a machine."""
    actions = possible_actions(machine) if length > 0 else []
    if len(actions) == 0:
        return [events]
    outputs = []
    for action in actions:
        after = machine.copy()
        told = events + tuple(act(after, action))
        outputs.extend(outputs_from(after, told, length - 1))
    return outputs


def all_outputs(guest, length):
    """Return the sorted list of the event lists of all schedules of a length."""
    if length < 0 or length > MOST_LENGTH:
        raise SettingError("length")
    return sorted(set(outputs_from(Machine(guest), (), length)))
