"""Parts that no line of calls shows by itself."""

import unittest

from fundswings.calls import answer_of
from fundswings.dealing import Prices, done
from fundswings.state import Fund, Order


def money_and_units(fund, kind, amount, swing_in, swing_out, levy):
    outcome = done(Order(9, kind, amount), Prices(fund, swing_in, swing_out), levy)
    return (outcome.number, outcome.levy, outcome.money, outcome.units)


class DoneTest(unittest.TestCase):
    def setUp(self):
        self.fund = Fund(10, 30)

    def test_a_levy_above_the_amount(self):
        for levy in (5, 6, 7, 1000):
            self.assertEqual(money_and_units(self.fund, 0, 5, 0, 0, levy), (9, levy, 5, 0))
            self.assertEqual(money_and_units(self.fund, 2, 15, 0, 0, levy), (9, levy, 0, -15))
        self.assertEqual(money_and_units(self.fund, 1, 15, 0, 0, 1000), (9, 1000, 1005, 15))
        self.assertEqual(money_and_units(self.fund, 3, 5, 0, 0, 1000), (9, 1000, -5, -3015))

    def test_a_swing_and_a_levy(self):
        self.assertEqual(money_and_units(self.fund, 0, 50, 100, 2000, 3), (9, 3, 50, 139))
        self.assertEqual(money_and_units(self.fund, 1, 50, 100, 2000, 3), (9, 3, 20, 50))
        self.assertEqual(money_and_units(self.fund, 2, 50, 2000, 100, 3), (9, 3, -13, -50))
        self.assertEqual(money_and_units(self.fund, 3, 50, 2000, 100, 3), (9, 3, -50, -161))


class FirstStateTest(unittest.TestCase):
    def assert_new(self, fund):
        policy = fund.policy
        self.assertEqual([policy.mode, policy.fixed_in, policy.fixed_out], [0, 0, 0])
        self.assertEqual([policy.factor, policy.threshold, policy.greatest], [1000000, 0, 2000])
        self.assertEqual([fund.buy_tiers, fund.sell_tiers, fund.orders, fund.outcomes], [[], [], [], []])
        self.assertEqual([fund.value, fund.units, fund.last_number], [7, 8, 0])

    def test_of_a_new_fund(self):
        self.assert_new(Fund(7, 8))

    def test_behind_begin(self):
        fund = Fund(5, 5)
        for call, numbers in ((1, [0, 5]), (2, [0, 5]), (3, [1, 1, 1, 1, 1, 1]), (4, [0, 5]), (7, []), (4, [0, 5])):
            self.assertGreaterEqual(answer_of(fund, call, numbers)[0], 0)
        self.assertEqual(answer_of(fund, 0, [7, 8]), [0])
        self.assert_new(fund)


if __name__ == "__main__":
    unittest.main()
