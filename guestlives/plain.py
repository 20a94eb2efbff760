"""Plain runs: a guest's instructions done one by one (points 39 and 40)."""

from guestlives.execute import device_write, inspect_event, step, take
from guestlives.machine import Machine
from guestlives.trial import check_action


def act(machine, action):
    """Do an action on a machine and return the list of its events."""
    if action == "d":
        return device_write(machine)[0]
    p = int(action[1])
    if action[0] == "g":
        return step(machine, p)[0]
    if action[0] == "t":
        return take(machine, p)
    if action[0] == "i":
        return [inspect_event(machine, p)]
    if action[0] == "r":
        machine.processors[p].pending = True
    # To prepare has no effect here.
    return []


class PlainRun:
    """A run of a guest, with all its events and actions so far."""

    def __init__(self, guest):
        self.machine = Machine(guest)
        self.events = []
        self.schedule = []

    @property
    def finished(self):
        """Whether both processors are halted and no device write is left."""
        machine = self.machine
        if machine.written < len(machine.guest.writes):
            return False
        return all(processor.halted for processor in machine.processors)

    def do(self, action):
        """Do an action and return the list of its events."""
        check_action(action)
        events = act(self.machine, action)
        self.events.extend(events)
        self.schedule.append(action)
        return events

    def run(self, schedule):
        """Do all actions of a schedule in order and return the list of their events."""
        # The schedule may be the run's own, which grows with each action.
        actions = list(schedule)
        for action in actions:
            check_action(action)
        events = []
        for action in actions:
            events.extend(self.do(action))
        return events

    @classmethod
    def replay(cls, guest, schedule):
        """Return a new run that has done a schedule."""
        made = cls(guest)
        made.run(schedule)
        return made


def plain_events(guest, schedule):
    """Return the list of the events of a schedule, done by a new run."""
    return PlainRun(guest).run(schedule)
