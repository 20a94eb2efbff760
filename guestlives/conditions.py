"""The three conditions of right policies (points 97 and 98).

A condition is a tree: the name of a rule, or a pair of the word "all" or "any" and a tuple of trees.
"""

COVERED = ("all", ("track_frames", ("any", ("track_second", "stop_page"))))
WATCHED = ("all", ("invalidate_store", "track_frames", ("any", ("track_second", "stop_page"))))

STORE_RULES = ("any", ("prompt_store", "single", "stop_store"))
FAULT_RULES = ("any", ("map_fault", "flush_fault"))


def holds(tree, policy):
    """Tell whether a policy meets a condition."""
    if isinstance(tree, str):
        return policy.has(tree)
    word, parts = tree
    found = [holds(part, policy) for part in parts]
    return all(found) if word == "all" else any(found)


def value_tree():
    """Return the condition under which no value is held back wrongly."""
    mapped = ("all", ("flush_exit", "map_inspect", "keep_dropped", "flush_source", FAULT_RULES))
    return ("all", (STORE_RULES, ("any", ("eager", ("all", ("flush_exit", "single")), mapped))))


def leave_tree(other, device):
    """Return the condition under which no value is lost where a block is left in its midst."""
    ways = ["eager", "single", "map_leave"]
    if not other and not device:
        ways.extend(["stop_store", "flush_fault"])
    return ("any", tuple(ways))


def inside_tree(other, device):
    """Return the condition under which a policy is safe inside blocks."""
    needs = [("any", ("stop_store", ("all", (WATCHED, "leave_self"))))]
    if other:
        needs.extend([WATCHED, "invalidate_map", "invalidate_rights", "leave_other", "hold_slot"])
    if device:
        needs.extend(["invalidate_device", COVERED, "leave_other"])
    return ("all", tuple(needs))


def entry_tree(other, device):
    """Return the condition under which a policy is safe at entries."""
    needs = [WATCHED, "invalidate_map", "invalidate_rights", "key_level"]
    if device:
        needs.append("invalidate_device")
    if other or device:
        needs.append("track_prepared")
    needs.append(("any", ("no_links", ("all", ("cut_links", "clear_links")))))
    return ("any", ("check_entry", ("all", tuple(needs))))


def code_tree(other, device):
    """Return the condition under which no block is used that is not the same any more."""
    return ("all", (("any", ("single", inside_tree(other, device))), entry_tree(other, device)))


def value_condition(policy):
    """Tell whether no value is held back wrongly."""
    return holds(value_tree(), policy)


def leave_condition(policy, *, other=True, device=True):
    """Tell whether no value is lost where a block is left in its midst."""
    return holds(leave_tree(other, device), policy)


def code_condition(policy, *, other=True, device=True):
    """Tell whether no block is used that is not the same any more."""
    return holds(code_tree(other, device), policy)
