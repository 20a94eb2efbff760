"""The groups of the rules and the numbers of policies (point 64)."""

from guestlives.errors import PolicyError, SettingError
from guestlives.policy import RULES, Policy

CODE_RULES = (
    "invalidate_store",
    "invalidate_device",
    "track_frames",
    "track_prepared",
    "track_second",
    "invalidate_map",
    "invalidate_rights",
    "key_level",
    "leave_self",
    "leave_other",
    "cut_links",
    "clear_links",
    "hold_slot",
    "check_entry",
    "stop_page",
    "stop_store",
    "no_links",
    "single",
)
VALUE_RULES = (
    "eager",
    "flush_exit",
    "flush_source",
    "keep_dropped",
    "map_inspect",
    "map_fault",
    "flush_fault",
    "map_leave",
    "prompt_store",
)
POLL_RULES = ("poll_entry", "poll_backward")

# One below 2 to the power of the number of rules.
MOST_POLICY_NUMBER = 536870911


def describe(name):
    """Return the sentence that tells the group and the place of a rule."""
    for group, rules in (("Code", CODE_RULES), ("Value", VALUE_RULES), ("Interrupt", POLL_RULES)):
        if name in rules:
            words = name.replace("_", " ")
            return f"{group} rule {rules.index(name) + 1} of {len(rules)}: {words}."
    raise PolicyError(name)


def policy_number(policy):
    """Return the number of a policy."""
    return sum([1 << RULES.index(name) for name in policy.names])


def policy_numbered(number):
    """Return the policy with a number."""
    if number < 0 or number > MOST_POLICY_NUMBER:
        raise SettingError("number")
    return Policy([name for place, name in enumerate(RULES) if (number >> place) & 1 == 1])
