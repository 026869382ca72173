import unittest

from fundswings.calls import answer_of
from fundswings.levies import shared_out
from fundswings.state import Fund
from tests.helper import begin, buys, last, order, point, policy, sells

MONEY_IN, UNITS_IN, UNITS_OUT, MONEY_OUT = 0, 1, 2, 3


def outcomes(*calls):
    """What the last point's orders came to: number, levy, money, units."""
    fund = Fund(1000000, 1000000)
    for call in calls:
        answer_of(fund, call[0], call[2:] if call[0] in (1, 2) else call[1:])
    return [(each.number, each.levy, each.money, each.units) for each in fund.outcomes]


class SharedOutTest(unittest.TestCase):
    def test_without_remainders(self):
        self.assertEqual(shared_out(10, [100, 300, 600]), [1, 3, 6])

    def test_greatest_remainder_first(self):
        self.assertEqual(shared_out(7, [500, 300, 200]), [4, 2, 1])
        self.assertEqual(shared_out(7, [200, 300, 500]), [1, 2, 4])
        self.assertEqual(shared_out(5, [260, 370, 370]), [1, 2, 2])

    def test_greatest_remainder_of_a_lesser_weight(self):
        self.assertEqual(shared_out(4, [600, 400]), [2, 2])
        self.assertEqual(shared_out(10, [330, 140, 530]), [3, 2, 5])

    def test_same_remainder_to_the_earlier(self):
        self.assertEqual(shared_out(1, [100, 100, 100]), [1, 0, 0])
        self.assertEqual(shared_out(2, [100, 100, 100]), [1, 1, 0])
        self.assertEqual(shared_out(4, [100, 100, 100]), [2, 1, 1])
        self.assertEqual(shared_out(1, [0, 100, 0, 100]), [0, 1, 0, 0])

    def test_fewer_coins_than_weights(self):
        self.assertEqual(shared_out(2, [1, 5, 3, 5, 4]), [0, 1, 0, 1, 0])

    def test_no_weight_no_coin(self):
        self.assertEqual(shared_out(3, [0, 2, 0, 5]), [0, 1, 0, 2])

    def test_nothing_to_share(self):
        self.assertEqual(shared_out(0, [3, 4]), [0, 0])

    def test_long_numbers(self):
        self.assertEqual(shared_out(10 ** 30 + 1, [10 ** 40, 10 ** 40, 10 ** 40 + 3]),
                         [333333333333333333333333333334, 333333333333333333333333333333,
                          333333333333333333333333333334])


class LeviesTest(unittest.TestCase):
    def test_each_kind(self):
        calls = (policy(3), buys(0, 10000), sells(0, 10000))
        self.assertEqual(last(*calls, order(MONEY_IN, 1000), point()), [1, 0, 10, 0, 1000990, 1000990])
        self.assertEqual(last(*calls, order(UNITS_IN, 1000), point()), [1, 0, 10, 0, 1001000, 1001000])
        self.assertEqual(last(*calls, order(UNITS_OUT, 1000), point()), [2, 0, 10, 0, 999000, 999000])
        self.assertEqual(last(*calls, order(MONEY_OUT, 1000), point()), [2, 0, 10, 0, 998990, 998990])

    def test_outcomes_of_each_kind(self):
        calls = (policy(3), buys(0, 10000), sells(0, 10000))
        self.assertEqual(outcomes(*calls, order(MONEY_IN, 1000), order(UNITS_IN, 2000), point()),
                         [(1, 10, 1000, 990), (2, 20, 2020, 2000)])
        self.assertEqual(outcomes(*calls, order(UNITS_OUT, 1000), order(MONEY_OUT, 2000), point()),
                         [(1, 10, -990, -1000), (2, 20, -2000, -2020)])

    def test_levies_are_rounded_with_their_orders(self):
        calls = (begin(10, 30), policy(3), buys(0, 100000), sells(0, 100000))
        self.assertEqual(outcomes(*calls, order(MONEY_IN, 7), point()), [(1, 1, 7, 18)])
        self.assertEqual(outcomes(*calls, order(UNITS_IN, 8), point()), [(1, 1, 4, 8)])
        self.assertEqual(outcomes(*calls, order(UNITS_OUT, 8), point()), [(1, 1, -1, -8)])
        self.assertEqual(outcomes(*calls, order(MONEY_OUT, 3), point()), [(1, 1, -3, -12)])

    def test_other_side_bears_nothing(self):
        calls = (policy(3), buys(0, 100000), sells(0, 100000))
        self.assertEqual(outcomes(*calls, order(UNITS_OUT, 500), order(MONEY_IN, 700), order(MONEY_OUT, 300),
                                  order(UNITS_IN, 300), point()),
                         [(1, 0, -500, -500), (2, 14, 700, 686), (3, 0, -300, -300), (4, 6, 306, 300)])
        self.assertEqual(outcomes(*calls, order(MONEY_IN, 500), order(UNITS_OUT, 700), order(UNITS_IN, 300),
                                  order(MONEY_OUT, 300), point()),
                         [(1, 0, 500, 500), (2, 14, -686, -700), (3, 0, 300, 300), (4, 6, -300, -306)])

    def test_other_side_bears_nothing_of_a_great_cost(self):
        self.assertEqual(outcomes(policy(3), buys(0, 1000000), order(MONEY_IN, 10), order(MONEY_OUT, 1), point()),
                         [(1, 9, 10, 1), (2, 0, -1, -1)])
        self.assertEqual(outcomes(policy(3), sells(0, 1000000), order(MONEY_OUT, 10), order(MONEY_IN, 1), point()),
                         [(1, 9, -10, -19), (2, 0, 1, 1)])

    def test_same_remainders_and_fewer_coins_than_orders(self):
        calls = (policy(3), buys(0, 5000), order(MONEY_IN, 100), order(MONEY_IN, 100), order(MONEY_IN, 100), point())
        self.assertEqual(outcomes(*calls), [(1, 1, 100, 99), (2, 1, 100, 99), (3, 0, 100, 100)])
        self.assertEqual(last(*calls), [1, 0, 2, 0, 1000298, 1000298])

    def test_the_earlier_of_two_kinds(self):
        one = (policy(3), buys(0, 1))
        self.assertEqual(last(*one, order(MONEY_IN, 100), order(UNITS_IN, 100), point()),
                         [1, 0, 1, 0, 1000199, 1000199])
        self.assertEqual(last(*one, order(UNITS_IN, 100), order(MONEY_IN, 100), point()),
                         [1, 0, 1, 0, 1000200, 1000200])

    def test_greatest_remainder_is_a_later_one(self):
        self.assertEqual(outcomes(policy(3), buys(0, 1), order(MONEY_IN, 100), order(UNITS_IN, 101), point()),
                         [(1, 0, 100, 100), (2, 1, 102, 101)])
        self.assertEqual(outcomes(policy(3), buys(0, 4000), order(MONEY_IN, 600), order(UNITS_IN, 400), point()),
                         [(1, 2, 600, 598), (2, 2, 402, 400)])

    def test_as_great_as_the_money_done_plain(self):
        calls = (policy(3), buys(0, 1000000), sells(0, 1000000))
        self.assertEqual(last(*calls, order(MONEY_IN, 1000), point()), [1, 0, 1000, 0, 1000000, 1000000])
        self.assertEqual(last(*calls, order(UNITS_IN, 1000), point()), [1, 0, 1000, 0, 1001000, 1001000])
        self.assertEqual(last(*calls, order(UNITS_OUT, 1000), point()), [2, 0, 1000, 0, 999000, 999000])
        self.assertEqual(last(*calls, order(MONEY_OUT, 1000), point()), [2, 0, 1000, 0, 998000, 998000])

    def test_no_cost_no_levies(self):
        self.assertEqual(outcomes(policy(3), order(MONEY_IN, 5), order(UNITS_IN, 6), point()),
                         [(1, 0, 5, 5), (2, 0, 6, 6)])

    def test_cost_is_of_the_orders_done_plain(self):
        # With their levies 10000 units in bring 10100 coins; the cost stays that of 10000.
        self.assertEqual(last(policy(3), buys(0, 10000), order(UNITS_IN, 10000), point())[2], 100)

    def test_units_out_worth_nothing_bear_nothing(self):
        calls = (begin(100, 1000000), policy(3), sells(0, 1000000))
        self.assertEqual(outcomes(*calls, order(UNITS_OUT, 5), order(MONEY_OUT, 2), point()),
                         [(1, 0, 0, -5), (2, 2, -2, -40000)])

    def test_fixed_swings_and_greatest_are_of_no_use(self):
        self.assertEqual(last(policy(3, 100, 100, 0, 0, 0), buys(0, 10000), order(MONEY_IN, 1000), point()),
                         [1, 0, 10, 0, 1000990, 1000990])

    def test_lacking_is_told_with_levies_too(self):
        # 3 units over 10 coins: of 9 coins in, 1 is a levy; 2 units are made and kept is 7 thirds.
        self.assertEqual(last(begin(10, 3), policy(3), buys(0, 100000), order(MONEY_IN, 9), point()),
                         [1, 0, 1, 0, 18, 5])


class OutcomesTest(unittest.TestCase):
    def test_of_the_last_point_alone(self):
        first = (order(MONEY_IN, 5), point())
        self.assertEqual(outcomes(*first), [(1, 0, 5, 5)])
        self.assertEqual(outcomes(*first, order(UNITS_OUT, 7), order(UNITS_IN, 9), point()),
                         [(2, 0, -7, -7), (3, 0, 9, 9)])

    def test_stay_behind_refusals_and_other_calls(self):
        self.assertEqual(outcomes(order(MONEY_IN, 5), point(), point(), order(UNITS_OUT, 10 ** 12), point()),
                         [(1, 0, 5, 5)])

    def test_gone_behind_begin(self):
        self.assertEqual(outcomes(order(MONEY_IN, 5), point(), begin(7, 7)), [])

    def test_without_withdrawn_orders(self):
        self.assertEqual(outcomes(order(MONEY_IN, 5), order(MONEY_IN, 6), [5, 1], point()), [(2, 0, 6, 6)])


if __name__ == "__main__":
    unittest.main()
