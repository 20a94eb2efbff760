"""Point 64."""

import unittest

from checks import Checks
from guestlives.errors import PolicyError, SettingError
from guestlives.policies import CODE_RULES, POLL_RULES, VALUE_RULES, describe, policy_number, policy_numbered
from guestlives.policy import RULES, Policy


class TestGroups(Checks):
    def test_groups(self):
        self.same_kind(CODE_RULES, RULES[:18])
        self.same_kind(VALUE_RULES, RULES[18:27])
        self.same_kind(POLL_RULES, RULES[27:])
        self.assertEqual((CODE_RULES[-1], VALUE_RULES[0], VALUE_RULES[-1]), ("single", "eager", "prompt_store"))


class TestDescribe(Checks):
    def test_sentences(self):
        for name, wanted in (
            ("invalidate_store", "Code rule 1 of 18: invalidate store."), ("single", "Code rule 18 of 18: single."),
            ("eager", "Value rule 1 of 9: eager."), ("prompt_store", "Value rule 9 of 9: prompt store."),
            ("poll_entry", "Interrupt rule 1 of 2: poll entry."), ("key_level", "Code rule 8 of 18: key level."),
            ("poll_backward", "Interrupt rule 2 of 2: poll backward."),
        ):
            self.same_kind(describe(name), wanted)
        self.assertEqual(len({describe(name) for name in RULES}), 29)

    def test_wrong_names(self):
        for name in ("", "lazy", "poll entry", "Eager", "none"):
            self.refuses(PolicyError, {"name": name}, describe, name)


class TestNumbers(Checks):
    def test_each_rule(self):
        for place, name in enumerate(RULES):
            self.same_kind(policy_number(Policy([name])), 2 ** place)
            self.same_kind(policy_numbered(2 ** place).names, (name,))

    def test_sums(self):
        for names, number in (((), 0), (("invalidate_store", "track_frames"), 5), (RULES, 536870911),
                              (("poll_backward", "invalidate_device"), 268435458)):
            self.same_kind(policy_number(Policy(names)), number)
            policy = policy_numbered(number)
            self.assertIsInstance(policy, Policy)
            self.same_kind(policy.names, Policy(names).names)

    def test_there_and_back(self):
        for number in range(0, 536870912, 9999991):
            self.assertEqual(policy_number(policy_numbered(number)), number)

    def test_wrong_numbers(self):
        for number in (-1, 536870912, 2 ** 40):
            self.refuses(SettingError, {"name": "number"}, policy_numbered, number)


if __name__ == "__main__":
    unittest.main()
