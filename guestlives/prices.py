"""The prices of rules and the cheapest right policies (point 104)."""

from guestlives.errors import PolicyError
from guestlives.least import least_policies
from guestlives.policy import RULES
from guestlives.trial import check_range

MOST_PRICE = 1000


def check_prices(prices):
    """Raise the error of prices for what is no rule, or that are out of range."""
    for name in prices:
        if name not in RULES:
            raise PolicyError(name)
    for price in prices.values():
        check_range("prices", price, 0, MOST_PRICE)


def total_price(policy, prices):
    """Return the sum of the prices of a policy's rules."""
    return sum([prices.get(name, 1) for name in policy.names])


def price_of(policy, prices):
    """Return the sum of the prices of a policy's rules, after a check of the prices."""
    check_prices(prices)
    return total_price(policy, prices)


def cheapest(prices, *, other=True, device=True):
    """Return the pair of the least price of a right policy and the first least policy with this price."""
    check_prices(prices)
    policies = least_policies(other=other, device=device)
    totals = [total_price(policy, prices) for policy in policies]
    least = min(totals)
    return (least, policies[totals.index(least)])
