"""How long the interrupts of a schedule wait (point 112)."""

from guestlives.trial import check_action, check_processor


def delays(schedule, p):
    """Return for each take of processor p how often it went since the first raise ahead of the take."""
    for action in schedule:
        check_action(action)
    check_processor(p)
    found = []
    waited = None
    for action in schedule:
        if action == f"t{p}":
            found.append(0 if waited is None else waited)
            waited = None
        elif action == f"r{p}" and waited is None:
            waited = 0
        elif action == f"g{p}" and waited is not None:
            waited = waited + 1
    return found
