"""Advice for a guest: which policies are right for it (point 137)."""

from guestlives.least import repairs
from guestlives.verdict import is_right, witness


def environment_of(guest):
    """Return the least environment that a guest fits, as the pair (other, device)."""
    return (guest.starts[1] is not None, len(guest.writes) > 0)


def is_safe(guest, policy):
    """Tell whether a policy is right for the guest's environment."""
    other, device = environment_of(guest)
    return is_right(policy, other=other, device=device)


def advise(guest, policy):
    """Return the list of the least sets of further rules that make a policy right for the guest's environment."""
    other, device = environment_of(guest)
    return repairs(policy, other=other, device=device)


def warn(guest, policy):
    """Return the trial that shows that a policy is wrong in the guest's environment, or None."""
    other, device = environment_of(guest)
    return witness(policy, other=other, device=device)
