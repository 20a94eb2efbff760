"""Least right policies, repairs of wrong ones, and what right ones can do without (points 102 and 103).

Sets of rules are kept as the numbers of their policies (point 64): one bit for each rule.
"""

from guestlives.conditions import met_by, right_tree
from guestlives.policies import policy_number, policy_numbered
from guestlives.policy import Policy
from guestlives.verdict import is_right


def least_numbers(numbers):
    """Return those numbers, ascending and each once, whose rules do not contain all rules of another one."""
    found = []
    # A set of rules has a greater number than each smaller set in it, so those stand ahead of it.
    for number in sorted(set(numbers)):
        if all((number & other) != other for other in found):
            found.append(number)
    return found


def ways_to_meet(tree):
    """Return the numbers of the least sets of rules that meet a condition."""
    if isinstance(tree, str):
        return [policy_number(Policy([tree]))]
    word, parts = tree
    found = [0] if word == "all" else []
    for part in parts:
        more = ways_to_meet(part)
        if word == "all":
            found = least_numbers([one | two for one in found for two in more])
        else:
            found = least_numbers(found + more)
    return found


def least_right_numbers(other, device):
    """Return the numbers of the least right policies for an environment."""
    return ways_to_meet(right_tree(other, device))


def in_set_order(numbers):
    """Return the tuples of the names of sets of rules in set order."""
    rows = [policy_numbered(number).names for number in numbers]
    return [names for _, names in sorted([(len(names), names) for names in rows])]


def least_policies(*, other=True, device=True):
    """Return the list of the right policies that become wrong whichever rule is left out."""
    return [Policy(names) for names in in_set_order(least_right_numbers(other, device))]


def repairs(policy, *, other=True, device=True):
    """Return the list of the least sets of further rules that make a policy right."""
    held = policy_number(policy)
    missing = [number - (number & held) for number in least_right_numbers(other, device)]
    return in_set_order(least_numbers(missing))


def redundant(policy, *, other=True, device=True):
    """Return the tuple of the rules of a right policy that can be left out alone."""
    names = policy.names
    every = (1 << len(names)) - 1
    # Policy k has all rules but the rule k. More rules keep a right policy right: of a wrong one none of them is.
    owners = {name: every - (1 << place) for place, name in enumerate(names)}
    right = met_by(right_tree(other, device), owners)
    return tuple([name for place, name in enumerate(names) if (right >> place) & 1 == 1])


def lasting_rules(names, tree):
    """Return the rules of a right policy that stay when its first redundant rule is left out again and again."""
    # Policy k has the lasting rules and all but the first k. More rules keep a right policy right: the right ones
    # stand ahead of the wrong ones, and a rule that is not redundant once is not redundant later on.
    every = (2 << len(names)) - 1
    owners = {name: (2 << place) - 1 for place, name in enumerate(names)}
    lasting = []
    right = met_by(tree, owners)
    while right != every:
        # The first wrong policy has one rule less than the last right one.
        name = names[right.bit_length() - 1]
        lasting.append(name)
        owners[name] = every
        right = met_by(tree, owners)
    return lasting


def shrink(policy, *, other=True, device=True):
    """Yield a right policy, and then again and again the one without its first redundant rule."""
    if not is_right(policy, other=other, device=device):
        return
    names = policy.names
    yield Policy(names)
    lasting = lasting_rules(names, right_tree(other, device))
    left = list(names)
    for name in names:
        if name not in lasting:
            left.remove(name)
            yield Policy(left)
