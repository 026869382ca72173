import unittest

from tests.helper import (RICH, ask, assert_changes_nothing, assert_ranges, assert_refused, begin, buys, cost, last,
                          order, point, policy, result, sells)

ROW = (100, 10000, 200, 20000, 300, 500000)
COSTS = {0: 0, 1: 0, 99: 0, 100: 0, 101: 1, 199: 1, 200: 1, 201: 2, 250: 2, 251: 3, 299: 3, 300: 3, 301: 4, 302: 4,
         303: 5, 400: 53, 10 ** 12: 499999999853}


class CostTest(unittest.TestCase):
    def test_without_tiers(self):
        for side in (1, 2):
            for amount in (0, 1, 1000000, 10 ** 12):
                self.assertEqual(last(cost(side, amount)), [0])

    def test_at_below_and_above_each_from(self):
        for amount, coins in COSTS.items():
            self.assertEqual(last(buys(*ROW), cost(1, amount)), [coins], amount)
            self.assertEqual(last(sells(*ROW), cost(2, amount)), [coins], amount)

    def test_each_side_has_its_own_tiers(self):
        self.assertEqual(ask(buys(0, 10000), cost(1, 1000), cost(2, 1000))[1:], [[10], [0]])
        self.assertEqual(ask(sells(0, 10000), cost(1, 1000), cost(2, 1000))[1:], [[0], [10]])
        self.assertEqual(ask(buys(0, 20000), sells(0, 30000), cost(1, 1000), cost(2, 1000))[2:], [[20], [30]])

    def test_edges_of_rate(self):
        self.assertEqual(ask(buys(0, 0), cost(1, 0), cost(1, 10 ** 12))[1:], [[0], [0]])
        self.assertEqual(ask(sells(0, 1000000), cost(2, 0), cost(2, 1), cost(2, 10 ** 12))[1:], [[0], [1], [10 ** 12]])

    def test_edges_of_from(self):
        self.assertEqual(ask(buys(10 ** 12, 1000000), cost(1, 10 ** 12))[1:], [[0]])
        self.assertEqual(ask(buys(10 ** 12 - 1, 1000000), cost(1, 10 ** 12), cost(1, 10 ** 12 - 1))[1:], [[1], [0]])
        self.assertEqual(ask(sells(0, 0, 10 ** 12 - 7, 1000000), cost(2, 10 ** 12))[1:], [[7]])

    def test_rounded_up_once(self):
        self.assertEqual(ask(buys(0, 1, 10, 1, 20, 1), cost(1, 1), cost(1, 30), cost(1, 1000000), cost(1, 1000001))[1:],
                         [[1], [1], [1], [2]])

    def test_six_tiers(self):
        six = (0, 0, 1, 10, 2, 20, 3, 30, 4, 40, 5, 1000000)
        self.assertEqual(ask(sells(*six), cost(2, 1), cost(2, 5), cost(2, 6), cost(2, 7))[1:], [[0], [1], [2], [3]])

    def test_orders_policy_and_value_are_of_no_use(self):
        before = (buys(*ROW), sells(0, 7), policy(3, 5, 5, 0, 1000000, 0), order(0, 50), order(2, 7), result(-999999))
        self.assertEqual(ask(*before, cost(1, 400), cost(2, 1000000))[-2:], [[53], [7]])
        self.assertEqual(ask(*RICH, point(), cost(1, 30000), cost(1, 30025))[-2:], [[598], [599]])

    def test_tiers_of_now(self):
        self.assertEqual(ask(buys(0, 10000), cost(1, 100), buys(50, 10000), cost(1, 150), buys(), cost(1, 100))[1::2],
                         [[1], [1], [0]])
        self.assertEqual(last(sells(0, 10000), sells(0, 20000, 0, 20000), cost(2, 100)), [1])
        self.assertEqual(ask(buys(0, 10000), sells(0, 10000), begin(5, 5), cost(1, 100), cost(2, 100))[3:], [[0], [0]])

    def test_a_point_costs_the_same(self):
        for amount in (50, 100, 101, 255, 300, 999):
            told = ask(buys(*ROW), order(0, amount), point(), cost(1, amount))
            self.assertEqual(told[2][2], told[3][0])


class RangeTest(unittest.TestCase):
    def test_beyond_the_ranges(self):
        for side in (1, 2):
            assert_ranges(self, RICH, cost(side, 5), ((1, 2), (0, 10 ** 12)))
            assert_ranges(self, (), cost(side, 5), ((1, 2), (0, 10 ** 12)))

    def test_both_numbers_wrong(self):
        assert_refused(self, RICH, cost(0, -1), -1)
        assert_refused(self, (), cost(3, 10 ** 12 + 1), -1)

    def test_changes_nothing(self):
        for before in ((), RICH, RICH + (point(),)):
            for side in (1, 2):
                for amount in (0, 31000, 10 ** 12):
                    assert_changes_nothing(self, before, cost(side, amount))


if __name__ == "__main__":
    unittest.main()
