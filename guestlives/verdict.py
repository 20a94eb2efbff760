"""Verdicts: whether a policy is right, and the trial that shows that it is wrong (points 99 to 101)."""

from guestlives.cellscenario import cell_scenario
from guestlives.cellwitness import cell_witness
from guestlives.conditions import code_condition, leave_condition, value_condition
from guestlives.valuescenario import leave_scenario, value_scenario
from guestlives.valuewitness import value_witness


def verdict(policy, *, other=True, device=True):
    """Return what is wrong with a policy, a tuple (table, target, scenario), or None."""
    found = value_scenario(policy)
    if found is not None:
        return ("value",) + found
    found = cell_scenario(policy, other=other, device=device)
    if found is not None:
        return ("code",) + found
    scenario = leave_scenario(policy, other=other, device=device)
    return None if scenario is None else ("leave", "register", scenario)


def is_right(policy, *, other=True, device=True):
    """Tell whether a policy is right for an environment."""
    return (
        value_condition(policy)
        and leave_condition(policy, other=other, device=device)
        and code_condition(policy, other=other, device=device)
    )


def witness(policy, *, other=True, device=True):
    """Return the trial that shows that a policy is wrong, or None."""
    found = verdict(policy, other=other, device=device)
    if found is None:
        return None
    table, target, scenario = found
    if table == "code":
        return cell_witness(policy, target, scenario)
    return value_witness(scenario, other=other, device=device)


def sort_policies(*policies, other=True, device=True):
    """Return the pair of the list of the right policies and the list of the wrong ones."""
    right = []
    wrong = []
    for policy in policies:
        if is_right(policy, other=other, device=device):
            right.append(policy)
        else:
            wrong.append(policy)
    return (right, wrong)
