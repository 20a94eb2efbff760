"""Noticing: which blocks a change hits (points 55 to 57)."""

from guestlives.limits import CELLS


def tracked(block, policy):
    """Return the tuple of the captured cells of a block that a policy tracks."""
    cells = list(block.captured_cells())
    if "track_second" in policy:
        return tuple(cells)
    return tuple([cell for cell in cells if cell[0] == block.entry // CELLS])


def is_in_frame(cells, frame, offset):
    """Tell whether one of the captured cells was read from a frame at an offset."""
    return any(cell[1:3] == (offset, frame) for cell in cells)


def is_store_hit(cells, page, frame, offset, policy):
    """Tell whether a store hits one of the tracked cells."""
    if "track_frames" in policy:
        return is_in_frame(cells, frame, offset)
    return any(cell[:2] == (page, offset) for cell in cells)


def is_hit(block, change, policy):
    """Tell whether a change hits a block."""
    cells = tracked(block, policy)
    if change[0] == "store":
        _, page, frame, offset = change
        return "invalidate_store" in policy and is_store_hit(cells, page, frame, offset, policy)
    if change[0] == "device":
        _, frame, offset = change
        return "invalidate_device" in policy and "track_frames" in policy and is_in_frame(cells, frame, offset)
    rule = "invalidate_map" if change[0] == "map" else "invalidate_rights"
    return rule in policy and any(cell[0] == change[1] for cell in cells)
