"""Which links poll for interrupts (points 105 and 106)."""


def is_polled(policy, entry, target):
    """Tell whether a link from a block with an entry to a target address polls."""
    return "poll_entry" in policy or ("poll_backward" in policy and target <= entry)


def always_polled(policy):
    """Tell whether each row of links that leads back polls somewhere, or there are no links."""
    return "no_links" in policy or "poll_entry" in policy or "poll_backward" in policy
