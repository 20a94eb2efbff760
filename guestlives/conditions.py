"""The three conditions of right policies (points 97 to 99).

A condition is a tree: the name of a rule, or a pair of the word "all" or "any" and a tuple of trees. Several
policies can be asked at once: a group of them is kept as a number, with the bit 1 << k for policy k.
"""

COVERED = ("all", ("track_frames", ("any", ("track_second", "stop_page"))))
WATCHED = ("all", ("invalidate_store", "track_frames", ("any", ("track_second", "stop_page"))))

STORE_RULES = ("any", ("prompt_store", "single", "stop_store"))
FAULT_RULES = ("any", ("map_fault", "flush_fault"))


def met_by(tree, owners):
    """Return the group of the policies that meet a condition; owners has for each rule the group that has it."""
    if isinstance(tree, str):
        return owners.get(tree, 0)
    word, parts = tree
    found = met_by(parts[0], owners)
    for part in parts[1:]:
        if word == "any":
            found = found | met_by(part, owners)
        elif found != 0:
            found = found & met_by(part, owners)
    return found


def holds(tree, policy):
    """Tell whether a policy meets a condition."""
    return met_by(tree, {name: 1 for name in policy.names}) == 1


def value_tree():
    """Return the condition under which no value is held back wrongly."""
    mapped = ("all", ("flush_exit", "map_inspect", "keep_dropped", "flush_source", FAULT_RULES))
    return ("all", (STORE_RULES, ("any", ("eager", ("all", ("flush_exit", "single")), mapped))))


def leave_tree(other, device):
    """Return the condition under which no value is lost where a block is left in its midst."""
    ways = ["eager", "single", "map_leave"]
    if not other and not device:
        ways.extend(["stop_store", "flush_fault"])
    return ("any", tuple(ways))


def inside_tree(other, device):
    """Return the condition under which a policy is safe inside blocks."""
    needs = [("any", ("stop_store", ("all", (WATCHED, "leave_self"))))]
    if other:
        needs.extend([WATCHED, "invalidate_map", "invalidate_rights", "leave_other", "hold_slot"])
    if device:
        needs.extend(["invalidate_device", COVERED, "leave_other"])
    return ("all", tuple(needs))


def entry_tree(other, device):
    """Return the condition under which a policy is safe at entries."""
    needs = [WATCHED, "invalidate_map", "invalidate_rights", "key_level"]
    if device:
        needs.append("invalidate_device")
    if other or device:
        needs.append("track_prepared")
    needs.append(("any", ("no_links", ("all", ("cut_links", "clear_links")))))
    return ("any", ("check_entry", ("all", tuple(needs))))


def code_tree(other, device):
    """Return the condition under which no block is used that is not the same any more."""
    return ("all", (("any", ("single", inside_tree(other, device))), entry_tree(other, device)))


def right_tree(other, device):
    """Return the condition of right policies: all three conditions."""
    return ("all", (value_tree(), leave_tree(other, device), code_tree(other, device)))


def value_condition(policy):
    """Tell whether no value is held back wrongly."""
    return holds(value_tree(), policy)


def leave_condition(policy, *, other=True, device=True):
    """Tell whether no value is lost where a block is left in its midst."""
    return holds(leave_tree(other, device), policy)


def code_condition(policy, *, other=True, device=True):
    """Tell whether no block is used that is not the same any more."""
    return holds(code_tree(other, device), policy)
