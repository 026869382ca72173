import unittest

from tests.helper import ask, begin, buys, last, order, point, policy, result, sells, withdraw

MONEY_IN, UNITS_IN, UNITS_OUT, MONEY_OUT = 0, 1, 2, 3


class PlainTest(unittest.TestCase):
    """Mode 0, and each kind of order at the plain price."""

    def test_each_kind_at_an_even_price(self):
        self.assertEqual(last(order(MONEY_IN, 7000), point()), [1, 0, 0, 0, 1007000, 1007000])
        self.assertEqual(last(order(UNITS_IN, 7000), point()), [1, 0, 0, 0, 1007000, 1007000])
        self.assertEqual(last(order(UNITS_OUT, 7000), point()), [2, 0, 0, 0, 993000, 993000])
        self.assertEqual(last(order(MONEY_OUT, 7000), point()), [2, 0, 0, 0, 993000, 993000])

    def test_each_kind_is_rounded_for_the_fund(self):
        fund = begin(10, 3)
        self.assertEqual(last(fund, order(MONEY_IN, 9), point()), [1, 0, 0, 0, 19, 5])
        self.assertEqual(last(fund, order(UNITS_IN, 1), point()), [1, 0, 0, 0, 14, 4])
        self.assertEqual(last(fund, order(UNITS_OUT, 1), point()), [2, 0, 0, 0, 7, 2])
        self.assertEqual(last(fund, order(MONEY_OUT, 4), point()), [2, 0, 0, 0, 6, 1])

    def test_each_kind_where_nothing_is_to_be_rounded(self):
        fund = begin(30, 9)
        self.assertEqual(last(fund, order(MONEY_IN, 10), point()), [1, 0, 0, 0, 40, 12])
        self.assertEqual(last(fund, order(UNITS_IN, 3), point()), [1, 0, 0, 0, 40, 12])
        self.assertEqual(last(fund, order(UNITS_OUT, 3), point()), [2, 0, 0, 0, 20, 6])
        self.assertEqual(last(fund, order(MONEY_OUT, 10), point()), [2, 0, 0, 0, 20, 6])

    def test_money_in_too_little_for_a_unit(self):
        self.assertEqual(last(begin(10, 3), order(MONEY_IN, 3), point()), [1, 0, 0, 0, 13, 3])

    def test_all_kinds_together(self):
        orders = (order(MONEY_IN, 5000), order(UNITS_OUT, 800), order(UNITS_IN, 300), order(MONEY_OUT, 40))
        self.assertEqual(last(*orders, point()), [1, 0, 0, 0, 1004460, 1004460])

    def test_cost_is_of_the_flow_alone(self):
        tiers = (buys(0, 10000), sells(0, 100000))
        self.assertEqual(last(*tiers, order(MONEY_IN, 5000), order(MONEY_OUT, 3000), point()),
                         [1, 0, 20, 20, 1001980, 1002000])
        self.assertEqual(last(*tiers, order(MONEY_IN, 3000), order(MONEY_OUT, 5000), point()),
                         [2, 0, 200, 200, 997800, 998000])

    def test_fixed_swings_are_of_no_use_in_mode_none(self):
        self.assertEqual(last(policy(0, 100, 100), order(MONEY_IN, 1010), point()), [1, 0, 0, 0, 1001010, 1001010])

    def test_neither_side(self):
        calls = (buys(0, 1000000), sells(0, 1000000), order(MONEY_IN, 1000), order(MONEY_OUT, 1000))
        for mode in (0, 1, 2, 3):
            self.assertEqual(last(policy(mode, 500, 500), *calls, point()), [0, 0, 0, 0, 1000000, 1000000])

    def test_neither_side_though_units_move(self):
        calls = (begin(1, 1000000), policy(1, 500, 500), sells(0, 1000000), buys(0, 1000000))
        self.assertEqual(last(*calls, order(UNITS_OUT, 10), point()), [0, 0, 0, 0, 1, 999990])


class LackingTest(unittest.TestCase):
    """10 coins over 3 units: 5 coins in make 1 unit, and what's kept is 5 thirds of a coin."""

    def lacking(self, rate):
        return last(begin(10, 3), buys(0, rate), order(MONEY_IN, 5), point())[2:4]

    def test_nothing(self):
        self.assertEqual(self.lacking(0), [0, 0])
        self.assertEqual(self.lacking(200000), [1, 0])

    def test_rounded_up(self):
        self.assertEqual(self.lacking(400000), [2, 1])
        self.assertEqual(self.lacking(600000), [3, 2])
        self.assertEqual(self.lacking(1000000), [5, 4])

    def test_whole(self):
        self.assertEqual(last(buys(0, 10000), order(MONEY_IN, 500), point())[2:4], [5, 5])

    def test_just_nothing(self):
        self.assertEqual(last(policy(1, 100), buys(0, 10000), order(MONEY_IN, 10100), point()),
                         [1, 100, 101, 1, 1009999, 1010000])
        self.assertEqual(last(policy(1, 100), buys(1, 10000), order(MONEY_IN, 10001), point()),
                         [1, 100, 100, 0, 1009901, 1009901])


class FixedTest(unittest.TestCase):
    def test_each_kind(self):
        fixed = policy(1, 100, 200)
        self.assertEqual(last(fixed, order(MONEY_IN, 101000), point()), [1, 100, 0, 0, 1101000, 1100000])
        self.assertEqual(last(fixed, order(UNITS_IN, 100000), point()), [1, 100, 0, 0, 1101000, 1100000])
        self.assertEqual(last(fixed, order(UNITS_OUT, 100000), point()), [2, 200, 0, 0, 902000, 900000])
        self.assertEqual(last(fixed, order(MONEY_OUT, 98000), point()), [2, 200, 0, 0, 902000, 900000])

    def test_each_kind_is_rounded_for_the_fund(self):
        fund = (begin(1000, 999), policy(1, 1, 1))
        self.assertEqual(last(*fund, order(MONEY_IN, 999), point()), [1, 1, 0, 0, 1999, 1996])
        self.assertEqual(last(*fund, order(UNITS_IN, 999), point()), [1, 1, 0, 0, 2001, 1998])
        self.assertEqual(last(*fund, order(UNITS_OUT, 998), point()), [2, 1, 0, 0, 2, 1])
        self.assertEqual(last(*fund, order(MONEY_OUT, 997), point()), [2, 1, 0, 0, 3, 2])

    def test_in_weighs_more_and_out_is_done_plain(self):
        orders = (order(UNITS_OUT, 4000), order(MONEY_IN, 10100), order(MONEY_OUT, 600), order(UNITS_IN, 5000))
        self.assertEqual(last(policy(1, 100, 200), *orders, point()), [1, 100, 0, 0, 1010550, 1010400])

    def test_out_weighs_more_and_in_is_done_plain(self):
        orders = (order(UNITS_OUT, 5000), order(MONEY_IN, 4000), order(MONEY_OUT, 9800), order(UNITS_IN, 600))
        self.assertEqual(last(policy(1, 100, 200), *orders, point()), [2, 200, 0, 0, 989900, 989600])

    def test_cost_is_of_the_flow_at_the_swing(self):
        self.assertEqual(last(policy(1, 2000, 0), buys(0, 10000), order(UNITS_IN, 10000), point()),
                         [1, 2000, 120, 0, 1011880, 1010000])
        self.assertEqual(last(policy(1, 0, 2000), sells(0, 10000), order(UNITS_OUT, 10000), point()),
                         [2, 2000, 80, 0, 991920, 990000])

    def test_a_flow_turned_by_the_swing_costs_nothing(self):
        calls = (policy(1, 2000, 2000), buys(0, 1000000), sells(0, 1000000))
        self.assertEqual(last(*calls, order(UNITS_OUT, 100000), order(MONEY_IN, 90000), point()),
                         [2, 2000, 0, 0, 1010000, 990000])

    def test_swing_of_the_other_side_is_of_no_use(self):
        self.assertEqual(last(policy(1, 0, 2000), order(MONEY_IN, 500), point()), [1, 0, 0, 0, 1000500, 1000500])
        self.assertEqual(last(policy(1, 2000, 0), order(MONEY_OUT, 500), point()), [2, 0, 0, 0, 999500, 999500])

    def test_greatest_is_of_no_use(self):
        self.assertEqual(last(policy(1, 100, 0, 0, 0, 0), order(MONEY_IN, 10100), point())[1], 100)


class ThresholdTest(unittest.TestCase):
    def swing(self, mode, threshold, *orders):
        fixed = policy(mode, 100, 200, 1000000, threshold, 2000)
        return last(fixed, buys(0, 10000), sells(0, 10000), *orders, point())[1]

    def test_more_than_the_threshold_is_enough(self):
        for kind, swing in ((MONEY_IN, 100), (UNITS_IN, 100), (UNITS_OUT, 200), (MONEY_OUT, 200)):
            self.assertEqual(self.swing(1, 1000, order(kind, 999)), 0)
            self.assertEqual(self.swing(1, 1000, order(kind, 1000)), 0)
            self.assertEqual(self.swing(1, 1000, order(kind, 1001)), swing)

    def test_threshold_zero(self):
        self.assertEqual(self.swing(1, 0, order(MONEY_IN, 1)), 100)
        self.assertEqual(self.swing(1, 0, order(MONEY_OUT, 1)), 200)

    def test_greatest_threshold(self):
        self.assertEqual(self.swing(1, 1000000, order(MONEY_IN, 1000000)), 0)
        self.assertEqual(self.swing(1, 1000000, order(MONEY_IN, 1000001)), 100)

    def test_of_the_flow_not_of_the_orders(self):
        self.assertEqual(self.swing(1, 1000, order(MONEY_IN, 5000), order(MONEY_OUT, 4000)), 0)
        self.assertEqual(self.swing(1, 1000, order(MONEY_IN, 5000), order(MONEY_OUT, 3999)), 100)
        self.assertEqual(self.swing(1, 1000, order(MONEY_OUT, 5000), order(MONEY_IN, 4000)), 0)
        self.assertEqual(self.swing(1, 1000, order(MONEY_OUT, 5000), order(MONEY_IN, 3999)), 200)

    def test_not_rounded(self):
        tight = policy(1, 100, 0, 0, 333333, 0)
        self.assertEqual(last(begin(10, 10), tight, order(MONEY_IN, 3), point())[1], 0)
        self.assertEqual(last(begin(10, 10), tight, order(MONEY_IN, 4), point())[1], 100)
        self.assertEqual(last(begin(10 ** 11, 1), tight, order(MONEY_IN, 33333300000), point())[1], 0)
        self.assertEqual(last(begin(10 ** 11, 1), tight, order(MONEY_IN, 33333300001), point())[1], 100)

    def test_found_swing(self):
        self.assertEqual(self.swing(2, 500000, order(MONEY_IN, 500000)), 0)
        self.assertNotEqual(self.swing(2, 499999, order(MONEY_IN, 500000)), 0)

    def test_levies(self):
        calls = (buys(0, 10000), order(MONEY_IN, 500000), point())
        self.assertEqual(last(policy(3, threshold=500000), *calls), [1, 0, 5000, 5000, 1495000, 1500000])
        self.assertEqual(last(policy(3, threshold=499999), *calls), [1, 0, 5000, 0, 1495000, 1495000])

    def test_not_enough_still_costs(self):
        for mode in (0, 1, 2, 3):
            self.assertEqual(last(policy(mode, 100, 100, threshold=500000), sells(0, 10000),
                                  order(UNITS_OUT, 500000), point()), [2, 0, 5000, 5000, 495000, 500000])


class FoundTest(unittest.TestCase):
    def test_zero_where_nothing_costs(self):
        self.assertEqual(last(policy(2), order(MONEY_IN, 500000), point()), [1, 0, 0, 0, 1500000, 1500000])
        self.assertEqual(last(policy(2), buys(500000, 1000000), sells(0, 1000000), order(MONEY_IN, 500000), point()),
                         [1, 0, 0, 0, 1500000, 1500000])

    def test_zero_where_roundings_cover(self):
        self.assertEqual(last(begin(10, 3), policy(2), buys(0, 200000), order(MONEY_IN, 5), point())[:4],
                         [1, 0, 1, 0])

    def test_between_in(self):
        calls = (policy(2), buys(0, 10000))
        self.assertEqual(last(*calls, order(MONEY_IN, 500000), point()), [1, 101, 5000, 0, 1495000, 1495000])
        self.assertEqual(last(*calls, order(UNITS_IN, 500000), point()), [1, 102, 5051, 0, 1500049, 1500000])

    def test_between_out(self):
        calls = (policy(2), sells(0, 10000))
        self.assertEqual(last(*calls, order(UNITS_OUT, 500000), point()), [2, 100, 4950, 0, 500050, 500000])
        self.assertEqual(last(*calls, order(MONEY_OUT, 500000), point()), [2, 99, 5000, 0, 495000, 495000])

    def test_least_one_where_zero_just_fails(self):
        self.assertEqual(last(policy(2), buys(0, 1), order(MONEY_IN, 9999), point()), [1, 1, 1, 0, 1009998, 1009998])

    def test_greatest_where_none_below_covers(self):
        calls = (buys(0, 10000), order(MONEY_IN, 500000), point())
        self.assertEqual(last(policy(2, greatest=100), *calls), [1, 100, 5000, 49, 1495000, 1495049])
        self.assertEqual(last(policy(2, greatest=1), *calls), [1, 1, 5000, 4950, 1495000, 1499950])
        self.assertEqual(last(policy(2, greatest=0), *calls), [1, 0, 5000, 5000, 1495000, 1500000])

    def test_greatest_that_covers_itself(self):
        calls = (buys(0, 10000), order(MONEY_IN, 500000), point())
        self.assertEqual(last(policy(2, greatest=101), *calls)[1], 101)
        self.assertEqual(last(policy(2, greatest=102), *calls)[1], 101)

    def test_greatest_of_all(self):
        self.assertEqual(last(policy(2), buys(0, 1000000), order(UNITS_IN, 10000), point()),
                         [1, 2000, 12000, 10000, 1000000, 1010000])
        self.assertEqual(last(policy(2), sells(0, 1000000), order(UNITS_OUT, 10000), point()),
                         [2, 2000, 8000, 6000, 984000, 990000])

    def test_fixed_swings_are_of_no_use(self):
        self.assertEqual(last(policy(2, 7, 9), buys(0, 10000), order(MONEY_IN, 500000), point())[1], 101)

    def test_factor_zero(self):
        self.assertEqual(last(policy(2, factor=0), buys(0, 10000), order(MONEY_IN, 500000), point()),
                         [1, 0, 5000, 5000, 1495000, 1500000])

    def test_factor_of_a_half(self):
        self.assertEqual(last(policy(2, factor=500000), buys(0, 10000), order(MONEY_IN, 500000), point()),
                         [1, 51, 5000, 2462, 1495000, 1497462])

    def test_factor_just_below_a_whole(self):
        # At swing 100 the orders keep 4951 coins of 5000: 990200 millionths.
        calls = (buys(0, 10000), order(MONEY_IN, 500000), point())
        self.assertEqual(last(policy(2, factor=990200), *calls)[1], 100)
        self.assertEqual(last(policy(2, factor=990201), *calls)[1], 101)

    def test_factor_leaves_fixed_swings_and_levies_alone(self):
        calls = (buys(0, 10000), order(MONEY_IN, 500000), point())
        self.assertEqual(last(policy(1, 101, factor=0), *calls), [1, 101, 5000, 0, 1495000, 1495000])
        self.assertEqual(last(policy(3, factor=0), *calls), [1, 0, 5000, 0, 1495000, 1495000])

    def test_in_and_out_together(self):
        # 300000 of flow cost 3000; only the 500000 in are swung for it.
        self.assertEqual(last(policy(2), buys(0, 10000), order(MONEY_IN, 500000), order(UNITS_OUT, 200000), point()),
                         [1, 61, 3000, 0, 1297000, 1296968])

    def test_tiers_met_on_the_way(self):
        # The swing lifts the flow above the second from; there each coin more costs a half.
        self.assertEqual(last(policy(2), buys(0, 10000, 505000, 500000), order(UNITS_IN, 500000), point()),
                         [1, 102, 5100, 0, 1500000, 1500000])


class SeveralPointsTest(unittest.TestCase):
    def test_each_starts_from_the_one_before(self):
        told = ask(policy(1, 100, 200), buys(0, 10000), order(0, 101000), point(), order(3, 98000), point(),
                   point(), order(1, 1000), withdraw(3), point(), order(2, 1000), point())
        self.assertEqual(told, [
            [0], [1], [1], [1, 100, 1010, 10, 1099990, 1100000], [2], [2, 200, 0, 0, 1001990, 999999],
            [-6], [3], [0], [-6], [4], [2, 200, 0, 0, 1001009, 998999]])

    def test_the_value_between_them(self):
        told = ask(order(0, 1000000), point(), result(0), result(-1000000), order(0, 100), point(), result(0))
        self.assertEqual(told[1:], [[1, 0, 0, 0, 2000000, 2000000], [2000000], [1000000], [2],
                                    [1, 0, 0, 0, 1000100, 2000200], [1000100]])

    def test_modes_one_behind_another(self):
        pairs = [call for mode in (0, 1, 2, 3) for call in (
            begin(1000000, 1000000), policy(mode, 50), buys(0, 10000), order(0, 500000), point())]
        self.assertEqual(ask(*pairs)[4::5], [
            [1, 0, 5000, 5000, 1495000, 1500000], [1, 50, 5000, 2512, 1495000, 1497512],
            [1, 101, 5000, 0, 1495000, 1495000], [1, 0, 5000, 0, 1495000, 1495000]])


if __name__ == "__main__":
    unittest.main()
