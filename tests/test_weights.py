import unittest

from tests.helper import (RICH, ask, assert_changes_nothing, begin, buys, last, order, orders, outcome, point, policy,
                          result, sells, weights, withdraw)
from tests.maker import Maker

MONEY_IN, UNITS_IN, UNITS_OUT, MONEY_OUT = 0, 1, 2, 3

# 200 coins more in than out, and the cost of that is 20.
MORE_IN = (buys(0, 100000), sells(0, 500000), order(UNITS_OUT, 500), order(MONEY_IN, 700), order(MONEY_OUT, 300),
           order(UNITS_IN, 300))
# 200 coins more out than in, and the cost of that is 20.
MORE_OUT = (buys(0, 500000), sells(0, 100000), order(MONEY_IN, 500), order(UNITS_OUT, 700), order(UNITS_IN, 300),
            order(MONEY_OUT, 300))


class NoOrdersTest(unittest.TestCase):
    def test_new(self):
        self.assertEqual(last(weights()), [0])

    def test_each_mode(self):
        for mode in (0, 1, 2, 3):
            self.assertEqual(last(policy(mode), buys(0, 5), sells(0, 5), weights()), [0])

    def test_no_orders_any_more(self):
        self.assertEqual(last(*MORE_IN, policy(3), point(), weights()), [0])
        self.assertEqual(last(*MORE_IN, begin(5, 5), weights()), [0])
        self.assertEqual(last(order(0, 5), policy(3), withdraw(1), weights()), [0])


class SidesTest(unittest.TestCase):
    def test_side_in(self):
        self.assertEqual(last(*MORE_IN, policy(3), weights()), [4, 0, 0, 700, 14, 0, 0, 300, 6])
        for mode in (0, 1, 2):
            self.assertEqual(last(*MORE_IN, policy(mode, 50, 60), weights()), [4, 0, 0, 700, 0, 0, 0, 300, 0])

    def test_side_out(self):
        self.assertEqual(last(*MORE_OUT, policy(3), weights()), [4, 0, 0, 700, 14, 0, 0, 300, 6])
        for mode in (0, 1, 2):
            self.assertEqual(last(*MORE_OUT, policy(mode, 50, 60), weights()), [4, 0, 0, 700, 0, 0, 0, 300, 0])

    def test_neither_side(self):
        tiers = (buys(0, 1000000), sells(0, 1000000))
        for mode in (0, 1, 2, 3):
            self.assertEqual(last(*tiers, policy(mode), order(MONEY_IN, 70), order(UNITS_OUT, 70), weights()),
                             [2, 0, 0, 0, 0])
            self.assertEqual(last(begin(1, 1000000), *tiers, policy(mode), order(UNITS_OUT, 10), weights()), [1, 0, 0])

    def test_each_kind_alone(self):
        tiers = (policy(3), buys(0, 10000), sells(0, 20000))
        for kind, levy in ((MONEY_IN, 7), (UNITS_IN, 7), (UNITS_OUT, 14), (MONEY_OUT, 14)):
            self.assertEqual(last(*tiers, order(kind, 700), weights()), [1, 700, levy])

    def test_a_side_that_does_not_weigh_enough(self):
        for calls in (MORE_IN, MORE_OUT):
            self.assertEqual(last(*calls, policy(3, threshold=199), weights()), [4, 0, 0, 700, 14, 0, 0, 300, 6])
            for mode in (0, 1, 2, 3):
                self.assertEqual(last(*calls, policy(mode, threshold=200), weights()), [4, 0, 0, 700, 0, 0, 0, 300, 0])

    def test_the_side_turns(self):
        self.assertEqual(last(*MORE_IN, policy(3), withdraw(4), weights()), [3, 500, 31, 0, 0, 300, 19])
        self.assertEqual(last(*MORE_IN, policy(3), order(MONEY_OUT, 200), weights()), [5] + [0] * 10)


class MoneyDonePlainTest(unittest.TestCase):
    """A unit is worth a third of a coin."""

    def test_rounded_as_the_money(self):
        self.assertEqual(last(begin(10, 30), order(UNITS_IN, 8), weights()), [1, 3, 0])
        self.assertEqual(last(begin(10, 30), order(UNITS_OUT, 8), weights()), [1, 2, 0])
        self.assertEqual(last(begin(10, 30), order(MONEY_IN, 8), weights()), [1, 8, 0])
        self.assertEqual(last(begin(10, 30), order(MONEY_OUT, 8), weights()), [1, 8, 0])

    def test_not_swung(self):
        for mode in (0, 1, 2, 3):
            self.assertEqual(last(policy(mode, 2000, 2000), order(UNITS_IN, 1000), weights()), [1, 1000, 0])
            self.assertEqual(last(policy(mode, 2000, 2000), order(UNITS_OUT, 1000), weights()), [1, 1000, 0])

    def test_units_worth_nothing(self):
        self.assertEqual(last(begin(100, 1000000), policy(3), sells(0, 1000000), order(UNITS_OUT, 5),
                              order(MONEY_OUT, 2), weights()), [2, 0, 0, 2, 2])

    def test_value_of_now(self):
        self.assertEqual(last(order(UNITS_IN, 50), result(1000000), weights()), [1, 100, 0])


class SharingTest(unittest.TestCase):
    def test_no_cost(self):
        self.assertEqual(last(policy(3), order(MONEY_IN, 5), order(UNITS_IN, 6), weights()), [2, 5, 0, 6, 0])

    def test_same_remainders_to_the_earlier(self):
        three = (order(MONEY_IN, 100), order(UNITS_IN, 100), order(MONEY_IN, 100))
        self.assertEqual(last(policy(3), buys(0, 1), *three, weights()), [3, 100, 1, 100, 0, 100, 0])
        self.assertEqual(last(policy(3), buys(0, 5000), *three, weights()), [3, 100, 1, 100, 1, 100, 0])
        self.assertEqual(last(policy(3), buys(0, 10000), *three, weights()), [3, 100, 1, 100, 1, 100, 1])
        self.assertEqual(last(policy(3), buys(0, 12000), *three, weights()), [3, 100, 2, 100, 1, 100, 1])

    def test_same_remainders_of_different_weights(self):
        # Of a cost of 3 over 600 both 100 and 300 leave a remainder of 300; 200 leaves none.
        tiers = (policy(3), sells(0, 5000))
        hundred, two, three = order(MONEY_OUT, 100), order(UNITS_OUT, 200), order(MONEY_OUT, 300)
        self.assertEqual(last(*tiers, hundred, three, two, weights()), [3, 100, 1, 300, 1, 200, 1])
        self.assertEqual(last(*tiers, two, three, hundred, weights()), [3, 200, 1, 300, 2, 100, 0])

    def test_greatest_remainder_is_a_later_one(self):
        self.assertEqual(last(policy(3), buys(0, 1), order(MONEY_IN, 100), order(UNITS_IN, 101), weights()),
                         [2, 100, 0, 101, 1])
        self.assertEqual(last(policy(3), buys(0, 4000), order(MONEY_IN, 600), order(UNITS_IN, 400), weights()),
                         [2, 600, 2, 400, 2])

    def test_forty(self):
        forty = [order(step % 2, 100) for step in range(40)]
        self.assertEqual(last(policy(3), buys(0, 1750), *forty, weights()), [40] + [100, 1] * 7 + [100, 0] * 33)

    def test_a_withdrawn_order_bears_nothing(self):
        calls = (policy(3), buys(0, 10000), order(MONEY_IN, 100), order(MONEY_IN, 300), order(MONEY_IN, 500))
        self.assertEqual(last(*calls, withdraw(2), weights()), [2, 100, 1, 500, 5])

    def test_though_the_point_would_be_refused(self):
        calls = (policy(3), sells(0, 1000000), order(UNITS_OUT, 1000000))
        self.assertEqual(ask(*calls, weights(), point(), weights())[3:], [[1, 1000000, 1000000], [-7],
                                                                          [1, 1000000, 1000000]])


class LeviesOfThePointTest(unittest.TestCase):
    """The levies told are those of the outcomes of a point right behind it."""

    def assert_levies(self, before):
        """Whether the point was answered, and some levy was above 0."""
        told = ask(*before, orders(), weights(), point())
        numbers = told[-3][1::3]
        if len(told[-1]) == 1:
            return False
        dealt = ask(*before, point(), *[outcome(number) for number in numbers])[len(before) + 1:]
        self.assertEqual(told[-2][2::2], [each[0] for each in dealt], before)
        self.assertEqual(told[-2][0], len(dealt))
        return any(each[0] > 0 for each in dealt)

    def test_each_mode(self):
        for calls in (MORE_IN, MORE_OUT, RICH):
            for mode in (0, 1, 2, 3):
                self.assertEqual(self.assert_levies(calls + (policy(mode, 5, 5),)), mode == 3)
                self.assertFalse(self.assert_levies(calls + (policy(mode, 5, 5, threshold=1000000),)))

    def test_many_lines(self):
        met = 0
        for seed in range(500):
            calls = []
            for call in Maker(seed, 40).line():
                if call == [7]:
                    met += self.assert_levies(calls)
                calls.append(call)
        self.assertGreater(met, 100)

    def test_changes_nothing(self):
        for before in ((), RICH, RICH + (point(),), MORE_IN + (policy(3),), MORE_OUT + (policy(3),)):
            assert_changes_nothing(self, before, weights())


if __name__ == "__main__":
    unittest.main()
