"""A host against the plain run of its matching schedule (point 78)."""

from guestlives.host import Host
from guestlives.plain import PlainRun, plain_events


def run_trial(trial, policy):
    """Return a host with the settings of a trial that has run its schedule."""
    host = Host(trial.guest, policy, slots=trial.slots, longest=trial.longest)
    host.run(trial.schedule)
    return host


def agrees(host):
    """Tell whether a host agrees with the plain run of its matching schedule."""
    plain = PlainRun.replay(host.machine.guest, host.matching)
    return host.events == plain.events and host.view().key() == plain.machine.key()


def first_difference(trial, policy):
    """Return the index of the first event in which a trial differs from its plain run, or None."""
    host = run_trial(trial, policy)
    wanted = plain_events(trial.guest, host.matching)
    for index, (event, other) in enumerate(zip(host.events, wanted)):
        if event != other:
            return index
    many = len(host.events)
    return None if many == len(wanted) else min(many, len(wanted))
