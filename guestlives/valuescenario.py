"""The scenarios of the value table (points 93 and 94)."""

from guestlives.valuetable import VALUE_TARGETS, ValueTable


def value_scenario(policy):
    """Return the pair (target, scenario) of the first target that has a scenario without leaving, or None."""
    for target in VALUE_TARGETS:
        scenario = ValueTable(policy, target, leaving=False).scenario()
        if scenario is not None:
            return (target, scenario)
    return None


def can_leave(policy, *, other=True, device=True):
    """Tell whether a processor may have to leave a block in its midst."""
    return other or device or ("stop_store" not in policy and "flush_fault" not in policy)


def leave_scenario(policy, *, other=True, device=True):
    """Return the scenario of a register with leaving, or None."""
    if not can_leave(policy, other=other, device=device):
        return None
    return ValueTable(policy, "register", leaving=True).scenario()
