"""The conditions of points 97 to 99 once more, in the words of the document, over sets of names."""

MAPPED = {"flush_exit", "map_inspect", "keep_dropped", "flush_source"}


def values_are_safe(rules):
    """The first condition of point 97 of the document, in its words."""
    stores = bool({"prompt_store", "single", "stop_store"} & rules)
    registers = "eager" in rules or {"flush_exit", "single"} <= rules
    return stores and (registers or (MAPPED <= rules and bool({"map_fault", "flush_fault"} & rules)))


def leaving_is_safe(rules, other, device):
    """The second condition of point 97 of the document, in its words."""
    if {"eager", "single", "map_leave"} & rules:
        return True
    return not other and not device and bool({"stop_store", "flush_fault"} & rules)


def code_is_safe(rules, other, device):
    """Point 98 of the document, in its words."""
    covered = "track_frames" in rules and ("track_second" in rules or "stop_page" in rules)
    watched = "invalidate_store" in rules and covered
    inside = "stop_store" in rules or (watched and "leave_self" in rules)
    if other:
        inside = inside and watched and {"invalidate_map", "invalidate_rights", "leave_other", "hold_slot"} <= rules
    if device:
        inside = inside and "invalidate_device" in rules and covered and "leave_other" in rules
    entries = watched and {"invalidate_map", "invalidate_rights", "key_level"} <= rules
    entries = entries and (not device or "invalidate_device" in rules)
    entries = entries and (not (other or device) or "track_prepared" in rules)
    entries = entries and ("no_links" in rules or {"cut_links", "clear_links"} <= rules)
    return ("single" in rules or inside) and ("check_entry" in rules or entries)


def right_by_words(names, other, device):
    """Point 99 of the document, in its words."""
    rules = set(names)
    return values_are_safe(rules) and leaving_is_safe(rules, other, device) and code_is_safe(rules, other, device)
