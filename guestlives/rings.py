"""Rings of links that do not poll, and the delay of interrupts (points 108 to 110)."""

from guestlives.errors import SettingError
from guestlives.polling import is_polled


def unpolled_targets(graph, policy, entry):
    """Return the list of the targets of all unpolled edges from an entry, ascending."""
    if entry not in graph:
        raise SettingError("entry")
    if "no_links" in policy:
        return []
    return [target for target in graph[entry][1] if target in graph and not is_polled(policy, entry, target)]


def unpolled_edges(graph, policy):
    """Yield all unpolled edges, pairs (entry, target), in ascending order."""
    for entry in sorted(graph):
        for target in unpolled_targets(graph, policy, entry):
            yield (entry, target)


def reached(graph, policy, entry):
    """Return the list of the entries to which one or more unpolled edges lead from an entry."""
    found = unpolled_targets(graph, policy, entry)
    at = 0
    while at < len(found):
        place = found[at]
        at = at + 1
        for target in unpolled_targets(graph, policy, place):
            if target not in found:
                found.append(target)
    return found


def unpolled_rings(graph, policy):
    """Return the list of all entries at which an edge of a ring begins, ascending."""
    return [entry for entry in sorted(graph) if entry in reached(graph, policy, entry)]


def greatest_delay(graph, policy):
    """Return the greatest length of a way, minus 1, or None if ways may have any length."""
    if len(unpolled_rings(graph, policy)) > 0:
        return None
    edges = list(unpolled_edges(graph, policy))
    lengths = {entry: row[0] for entry, row in graph.items()}
    # Without rings a way has each entry at most once: after so many rounds all lengths are known.
    for _ in range(len(graph)):
        for entry, target in edges:
            lengths[entry] = max(lengths[entry], graph[entry][0] + lengths[target])
    return max([length - 1 for length in lengths.values()], default=0)
