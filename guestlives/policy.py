"""Policies: sets of named rules (points 15 and 16)."""

from guestlives.errors import PolicyError

RULES = (
    "invalidate_store",
    "invalidate_device",
    "track_frames",
    "track_prepared",
    "track_second",
    "invalidate_map",
    "invalidate_rights",
    "key_level",
    "leave_self",
    "leave_other",
    "cut_links",
    "clear_links",
    "hold_slot",
    "check_entry",
    "stop_page",
    "stop_store",
    "no_links",
    "single",
    "eager",
    "flush_exit",
    "flush_source",
    "keep_dropped",
    "map_inspect",
    "map_fault",
    "flush_fault",
    "map_leave",
    "prompt_store",
    "poll_entry",
    "poll_backward",
)


class Policy:
    """A set of rules; its names stand in the order of RULES."""

    def __init__(self, names=()):
        told = {}
        for name in names:
            if name not in RULES or name in told:
                raise PolicyError(name)
            told[name] = True
        self.names = tuple([name for name in RULES if name in told])

    @staticmethod
    def empty():
        """Return the policy without a rule."""
        return Policy()

    @staticmethod
    def full():
        """Return the policy with all rules."""
        return Policy(RULES)

    def has(self, name):
        """Tell whether the rule belongs to the policy."""
        return name in self.names

    def __contains__(self, name):
        return name in self.names

    def __iter__(self):
        return iter(self.names)

    def __or__(self, other):
        return Policy([name for name in RULES if name in self.names or name in other.names])

    def __sub__(self, other):
        return Policy([name for name in self.names if name not in other.names])
