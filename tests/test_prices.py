"""Point 104."""

import unittest
from itertools import product
from random import Random

from checks import Checks
from guestlives.errors import PolicyError, SettingError
from guestlives.least import least_policies
from guestlives.policy import RULES, Policy
from guestlives.prices import MOST_PRICE, cheapest, price_of

ENVIRONMENTS = tuple(product((True, False), repeat=2))
SINGLE = ("check_entry", "single", "eager")
ERRORS = (
    ({"x": 1}, PolicyError, {"name": "x"}),
    ({"eager": 1, "": 5, "x": 1}, PolicyError, {"name": ""}),
    ({"eager": -1, "Eager": 1001}, PolicyError, {"name": "Eager"}),
    ({"none": -1}, PolicyError, {"name": "none"}),
    ({"eager": -1}, SettingError, {"name": "prices"}),
    ({"eager": 0, "single": 1001}, SettingError, {"name": "prices"}),
)


class TestPriceOf(Checks):
    def test_prices(self):
        self.assertEqual(MOST_PRICE, 1000)
        for names, prices, wanted in (
            ((), {}, 0), ((), {"eager": 5}, 0), (SINGLE, {}, 3), (SINGLE, {"eager": 0}, 2),
            (SINGLE, {"eager": 1000}, 1002), (SINGLE, {"eager": 7, "single": 10, "no_links": 100}, 18),
            (RULES, {}, 29), (RULES, {name: 1000 for name in RULES}, 29000), (RULES, {name: 0 for name in RULES}, 0),
        ):
            self.same_kind(price_of(Policy(names), prices), wanted)

    def test_errors(self):
        for prices, error, told in ERRORS:
            before = list(prices.items())
            self.refuses(error, told, price_of, Policy.empty(), prices)
            self.refuses(error, told, price_of, Policy.full(), prices)
            self.assertEqual(list(prices.items()), before)


class TestCheapest(Checks):
    def test_without_prices(self):
        price, policy = cheapest({})
        self.same_kind((price, policy.names), (3, SINGLE))
        self.assertIsInstance(cheapest({}), tuple)
        self.assertIsInstance(policy, Policy)

    def test_the_first_of_several(self):
        price, policy = cheapest({"eager": 2})
        self.assertEqual((price, policy.names), (3, ("check_entry", "single", "flush_exit")))
        price, policy = cheapest({"eager": 1, "flush_exit": 1})
        self.assertEqual((price, policy.names), (3, SINGLE))
        # With prices of 0 even the first one is not beaten.
        price, policy = cheapest({name: 0 for name in RULES})
        self.assertEqual((price, policy.names), (0, SINGLE))

    def test_dear_rules(self):
        price, policy = cheapest({"check_entry": 1000, "single": 1000})
        self.assertNotIn("check_entry", policy)
        self.assertNotIn("single", policy)
        self.assertEqual(price, len(policy.names))
        self.assertEqual(cheapest({"check_entry": 1000}, other=False, device=False)[0], 9)

    def test_all_environments(self):
        random = Random(15)
        for other, device in ENVIRONMENTS:
            least = least_policies(other=other, device=device)
            for _ in range(30):
                prices = {name: random.choice((0, 1, 2, 3, 50, 1000)) for name in random.sample(RULES, 12)}
                rows = [(price_of(policy, prices), policy.names) for policy in least]
                wanted = [row for row in rows if row[0] == min([price for price, _ in rows])][0]
                price, policy = cheapest(prices, other=other, device=device)
                self.assertEqual((price, policy.names), wanted)

    def test_environments_differ(self):
        prices = {"single": 100}
        found = [cheapest(prices, other=other, device=device)[0] for other, device in ENVIRONMENTS]
        self.assertEqual(found, [11, 10, 7, 3])
        self.assertEqual(cheapest(prices, other=False)[0], 7)
        self.assertEqual(cheapest(prices, device=False)[0], 10)
        with self.assertRaises(TypeError):
            cheapest(prices, True)

    def test_errors(self):
        for prices, error, told in ERRORS:
            self.refuses(error, told, cheapest, prices)
            self.refuses(error, told, cheapest, prices, other=False, device=False)


if __name__ == "__main__":
    unittest.main()
