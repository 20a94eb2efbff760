"""Joined blocks: along the path of one block and, behind one of its exits, another one (point 117)."""

from guestlives.limits import MOST_JOINED
from guestlives.making import build_block, capture_at, leaves_page
from guestlives.ops import is_linkable
from guestlives.parts import ways_out
from guestlives.trial import check_range


def join_addresses(a, index, b):
    """Return the addresses of the parts of block a up to an index, and then those of all parts of block b."""
    return [part.address for part in a.parts[:index + 1] + b.parts]


def leads_to(part, address):
    """Tell whether an instruction can lead to an address."""
    return address in [part.address_after(taken) for taken in ways_out(part.name)]


def ends_row(part, policy):
    """Tell whether a joined row stops behind a part."""
    return not is_linkable(part.name) or ("stop_store" in policy and part.name == "store")


def parts_along(machine, addresses, policy, most):
    """Return the list of the parts of the joined block along a path, without small steps."""
    parts = []
    for address in addresses[:most]:
        part = capture_at(machine, address)
        if part is None or ("stop_page" in policy and leaves_page(part, addresses[0])):
            break
        if len(parts) > 0 and not leads_to(parts[-1], address):
            break
        parts.append(part)
        if ends_row(part, policy):
            break
    return parts


def make_joined(machine, addresses, level, policy, most):
    """Return the joined block along a path as the machine is now, or None if it has no part."""
    check_range("most", most, 1, MOST_JOINED)
    parts = parts_along(machine, addresses, policy, most)
    return build_block(addresses[0], level, parts, policy) if len(parts) > 0 else None
