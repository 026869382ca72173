"""The calls orders, fund and flow."""

import unittest

from tests.helper import (RICH, ask, assert_changes_nothing, begin, buys, flow, fund, last, order, orders, point,
                          policy, result, sells, withdraw)

MONEY_IN, UNITS_IN, UNITS_OUT, MONEY_OUT = 0, 1, 2, 3

FORTY = tuple(order(step % 4, 10 + step) for step in range(40))
# Refused by -7, as no units would be left, and by -8, as the value would be too great.
TOO_LITTLE = (order(0, 5), order(2, 1000005))
TOO_MUCH = (order(0, 5), order(0, 10 ** 12))


class OrdersTest(unittest.TestCase):
    def test_empty(self):
        self.assertEqual(last(orders()), [0])

    def test_in_order_with_number_kind_and_amount(self):
        self.assertEqual(last(order(3, 7), orders()), [1, 1, 3, 7])
        self.assertEqual(last(order(3, 7), order(0, 10 ** 12), order(2, 1), order(1, 7), orders()),
                         [4, 1, 3, 7, 2, 0, 10 ** 12, 3, 2, 1, 4, 1, 7])

    def test_forty(self):
        told = [40] + [number for step in range(40) for number in (step + 1, step % 4, 10 + step)]
        self.assertEqual(last(*FORTY, orders()), told)
        self.assertEqual(last(*FORTY, order(0, 1), orders()), told)

    def test_a_refused_order_is_not_there(self):
        self.assertEqual(last(order(0, 5), order(4, 5), order(0, 0), order(0, 6), orders()), [2, 1, 0, 5, 2, 0, 6])

    def test_behind_withdraw(self):
        three = (order(0, 5), order(1, 6), order(2, 7))
        self.assertEqual(last(*three, withdraw(1), orders()), [2, 2, 1, 6, 3, 2, 7])
        self.assertEqual(last(*three, withdraw(2), orders()), [2, 1, 0, 5, 3, 2, 7])
        self.assertEqual(last(*three, withdraw(3), orders()), [2, 1, 0, 5, 2, 1, 6])
        self.assertEqual(last(*three, withdraw(4), orders()), [3, 1, 0, 5, 2, 1, 6, 3, 2, 7])
        self.assertEqual(last(*three, withdraw(3), withdraw(1), withdraw(2), orders()), [0])
        self.assertEqual(last(*three, withdraw(3), order(3, 8), orders()), [3, 1, 0, 5, 2, 1, 6, 4, 3, 8])
        self.assertEqual(last(*FORTY, withdraw(1), order(3, 8), orders())[-6:], [40, 3, 49, 41, 3, 8])

    def test_behind_a_point(self):
        self.assertEqual(last(*FORTY, point(), orders()), [0])
        self.assertEqual(last(order(0, 5), point(), order(2, 6), orders()), [1, 2, 2, 6])

    def test_behind_a_refused_point(self):
        self.assertEqual(ask(*TOO_LITTLE, point(), orders())[2:], [[-7], [2, 1, 0, 5, 2, 2, 1000005]])
        self.assertEqual(ask(*TOO_MUCH, point(), orders())[2:], [[-8], [2, 1, 0, 5, 2, 0, 10 ** 12]])
        self.assertEqual(ask(point(), orders()), [[-6], [0]])

    def test_behind_begin(self):
        self.assertEqual(last(*FORTY, begin(5, 5), orders()), [0])
        self.assertEqual(last(*FORTY, begin(5, 5), order(1, 9), orders()), [1, 1, 1, 9])
        self.assertEqual(last(order(0, 5), begin(5, 0), orders()), [1, 1, 0, 5])

    def test_behind_result_and_others(self):
        self.assertEqual(last(order(0, 5), result(-7), policy(3), buys(0, 5), sells(0, 5), orders()), [1, 1, 0, 5])

    def test_changes_nothing(self):
        for before in ((), RICH, RICH + (point(),), FORTY):
            assert_changes_nothing(self, before, orders())


class FundTest(unittest.TestCase):
    def test_new(self):
        self.assertEqual(last(fund()), [1000000, 1000000])

    def test_behind_begin(self):
        self.assertEqual(last(begin(5, 7), fund()), [5, 7])
        self.assertEqual(last(begin(1, 1), fund()), [1, 1])
        self.assertEqual(last(begin(10 ** 12, 10 ** 18), fund()), [10 ** 12, 10 ** 18])
        self.assertEqual(last(begin(5, 7), begin(0, 9), begin(9, 0), fund()), [5, 7])
        self.assertEqual(last(order(0, 5), point(), begin(8, 9), fund()), [8, 9])

    def test_behind_result(self):
        self.assertEqual(last(result(5), result(-7), fund()), [999998, 1000000])
        self.assertEqual(last(result(-1000000), result(10 ** 12), result(10 ** 12 + 1), fund()), [1000000, 1000000])

    def test_orders_wait(self):
        self.assertEqual(last(*FORTY, fund()), [1000000, 1000000])
        self.assertEqual(last(*FORTY, withdraw(7), fund()), [1000000, 1000000])

    def test_behind_a_point(self):
        self.assertEqual(last(begin(1000, 300), order(0, 9), point(), fund()), [1009, 302])
        self.assertEqual(last(order(0, 500000), buys(0, 10000), policy(2), point(), fund()), [1495000, 1495000])
        # Of the forty those in bring 570, those out take 610.
        self.assertEqual(last(*FORTY, point(), fund()), [999960, 999960])

    def test_behind_a_refused_point(self):
        self.assertEqual(last(*TOO_LITTLE, point(), fund()), [1000000, 1000000])
        self.assertEqual(last(*TOO_MUCH, point(), fund()), [1000000, 1000000])
        self.assertEqual(last(result(3), point(), fund()), [1000003, 1000000])

    def test_as_the_point_told(self):
        for mode in (0, 1, 2, 3):
            told = ask(*RICH, policy(mode, 30, 40), point(), fund())
            self.assertEqual(told[-2][4:], told[-1])

    def test_changes_nothing(self):
        for before in ((), RICH, RICH + (point(),), FORTY):
            assert_changes_nothing(self, before, fund())


class FlowTest(unittest.TestCase):
    def test_empty(self):
        self.assertEqual(last(flow()), [0, 0, 0])

    def test_each_kind(self):
        self.assertEqual(last(order(MONEY_IN, 70), flow()), [1, 70, 70])
        self.assertEqual(last(order(UNITS_IN, 70), flow()), [1, 70, 70])
        self.assertEqual(last(order(UNITS_OUT, 70), flow()), [2, -70, -70])
        self.assertEqual(last(order(MONEY_OUT, 70), flow()), [2, -70, -70])

    def test_each_kind_is_rounded_for_the_fund(self):
        self.assertEqual(last(begin(10, 3), order(MONEY_IN, 9), flow()), [1, 9, 2])
        self.assertEqual(last(begin(10, 3), order(UNITS_IN, 1), flow()), [1, 4, 1])
        self.assertEqual(last(begin(10, 3), order(UNITS_OUT, 1), flow()), [2, -3, -1])
        self.assertEqual(last(begin(10, 3), order(MONEY_OUT, 4), flow()), [2, -4, -2])

    def test_both_sides(self):
        self.assertEqual(last(order(MONEY_IN, 5000), order(UNITS_OUT, 800), order(MONEY_OUT, 40), flow()),
                         [1, 4160, 4160])
        self.assertEqual(last(order(MONEY_IN, 39), order(MONEY_OUT, 40), flow()), [2, -1, -1])

    def test_neither_side(self):
        self.assertEqual(last(order(MONEY_IN, 40), order(UNITS_OUT, 40), flow()), [0, 0, 0])
        self.assertEqual(last(begin(1, 1000000), order(UNITS_OUT, 10), flow()), [0, 0, -10])
        self.assertEqual(last(begin(10, 3), order(MONEY_IN, 4), order(MONEY_OUT, 4), flow()), [0, 0, -1])

    def test_units_and_money_apart(self):
        # A unit in brings 4 coins and a unit out takes 3: no units, but a coin.
        self.assertEqual(last(begin(10, 3), order(UNITS_IN, 1), order(UNITS_OUT, 1), flow()), [1, 1, 0])

    def test_policy_and_tiers_are_of_no_use(self):
        for mode in (0, 1, 2, 3):
            for threshold in (0, 1000000):
                before = (policy(mode, 500, 500, threshold=threshold), buys(0, 1000000), sells(0, 1000000))
                self.assertEqual(last(*before, order(MONEY_IN, 70), order(UNITS_IN, 5), flow()), [1, 75, 75])
                self.assertEqual(last(*before, order(MONEY_OUT, 70), order(UNITS_OUT, 5), flow()), [2, -75, -75])

    def test_forty(self):
        self.assertEqual(last(*FORTY, flow()), [2, -40, -40])
        self.assertEqual(last(begin(10 ** 12, 10 ** 18), *[order(0, 10 ** 12)] * 40, flow()),
                         [1, 40 * 10 ** 12, 40 * 10 ** 18])

    def test_behind_withdraw(self):
        self.assertEqual(last(order(0, 70), order(3, 90), withdraw(2), flow()), [1, 70, 70])
        self.assertEqual(last(order(0, 70), order(3, 90), withdraw(1), flow()), [2, -90, -90])
        self.assertEqual(last(order(0, 70), withdraw(1), flow()), [0, 0, 0])

    def test_behind_a_point_and_begin(self):
        self.assertEqual(last(order(0, 70), point(), flow()), [0, 0, 0])
        self.assertEqual(last(order(0, 70), point(), order(0, 7), flow()), [1, 7, 7])
        self.assertEqual(last(order(0, 70), begin(5, 5), flow()), [0, 0, 0])

    def test_behind_a_refused_point(self):
        self.assertEqual(last(*TOO_LITTLE, point(), flow()), [2, -1000000, -1000000])
        self.assertEqual(last(*TOO_MUCH, point(), flow()), [1, 10 ** 12 + 5, 10 ** 12 + 5])

    def test_behind_result(self):
        self.assertEqual(last(order(0, 70), result(1000000), flow()), [1, 70, 35])
        self.assertEqual(last(order(2, 70), result(1000000), flow()), [2, -140, -70])

    def test_changes_nothing(self):
        for before in ((), RICH, RICH + (point(),), FORTY):
            assert_changes_nothing(self, before, flow())


if __name__ == "__main__":
    unittest.main()
