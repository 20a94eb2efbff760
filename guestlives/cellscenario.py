"""The scenarios of the cell table (points 81 and 86)."""

from guestlives.celltable import TARGETS, CellTable


def targets_of(policy):
    """Return the list of the targets that blocks of a policy can have."""
    barred = []
    if "single" in policy:
        barred.append("later")
    if "stop_page" in policy:
        barred.append("second")
    return [(part, page) for part, page in TARGETS if part not in barred and page not in barred]


def cell_scenario(policy, *, other=True, device=True):
    """Return the pair (target, scenario) of the first target that has a scenario, or None."""
    for target in targets_of(policy):
        scenario = CellTable(policy, target, other=other, device=device).scenario()
        if scenario is not None:
            return (target, scenario)
    return None
