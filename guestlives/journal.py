"""The journal of a debugger, and the costs of what a host does (points 133 and 134)."""

from guestlives.errors import SettingError
from guestlives.plaintext import format_event
from guestlives.prices import MOST_PRICE
from guestlives.trial import check_range


def journal_line(number, action, events):
    """Return the line of an action with its number and its events."""
    texts = [format_event(event) for event in events]
    told = "; ".join(texts) if len(texts) > 0 else "-"
    return f"{number:>4} {action:<2} {told}"


def journal(debugger):
    """Return the list of the lines of a debugger's log."""
    return [journal_line(at + 1, action, events) for at, (action, events) in enumerate(debugger.log)]


def cost_line(name, number):
    """Return the line of a name and a number."""
    return f"{name:<12}{number:>8,}"


def cost_lines(counts):
    """Return the list of the lines of all counts, and of their total behind them."""
    lines = [cost_line(name, number) for name, number in counts.items()]
    return lines + [cost_line("total", sum(counts.values()))]


def bill(counts, prices):
    """Return the sum of the counts, each times its price."""
    for name in prices:
        if name not in counts:
            raise SettingError("name")
    for price in prices.values():
        check_range("prices", price, 0, MOST_PRICE)
    return sum([number * prices.get(name, 1) for name, number in counts.items()])
