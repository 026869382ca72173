import unittest

from tests.helper import (RICH, ask, assert_changes_nothing, assert_ranges, begin, buys, last, order, point, policy,
                          result, sells, try_at, withdraw)

MONEY_IN, UNITS_IN, UNITS_OUT, MONEY_OUT = 0, 1, 2, 3


class SideInTest(unittest.TestCase):
    def test_money_in(self):
        calls = (buys(0, 10000), order(MONEY_IN, 500000))
        self.assertEqual(last(*calls, try_at(0)), [5000, 0, 500000, 500000, 0])
        self.assertEqual(last(*calls, try_at(1)), [5000, 0, 500000, 499950, 50000000])
        self.assertEqual(last(*calls, try_at(100)), [5000, 0, 500000, 495049, 4951000000])
        self.assertEqual(last(*calls, try_at(101)), [5000, 1, 500000, 495000, 5000000000])
        self.assertEqual(last(*calls, try_at(2000)), [5000, 1, 500000, 416666, 83334000000])

    def test_units_in(self):
        calls = (buys(0, 10000), order(UNITS_IN, 500000))
        self.assertEqual(last(*calls, try_at(0)), [5000, 0, 500000, 500000, 0])
        self.assertEqual(last(*calls, try_at(1)), [5001, 0, 500050, 500000, 50000000])
        self.assertEqual(last(*calls, try_at(101)), [5051, 0, 505050, 500000, 5050000000])
        self.assertEqual(last(*calls, try_at(102)), [5051, 1, 505100, 500000, 5100000000])
        self.assertEqual(last(*calls, try_at(2000)), [6000, 1, 600000, 500000, 100000000000])

    def test_out_orders_are_done_plain(self):
        calls = (buys(0, 10000), sells(0, 500000), order(UNITS_OUT, 4000), order(MONEY_IN, 10100),
                 order(MONEY_OUT, 600), order(UNITS_IN, 5000))
        self.assertEqual(last(*calls, try_at(0)), [105, 0, 10500, 10500, 0])
        self.assertEqual(last(*calls, try_at(100)), [106, 1, 10550, 10400, 150000000])


class SideOutTest(unittest.TestCase):
    def test_units_out(self):
        calls = (sells(0, 10000), order(UNITS_OUT, 500000))
        self.assertEqual(last(*calls, try_at(0)), [5000, 0, -500000, -500000, 0])
        self.assertEqual(last(*calls, try_at(1)), [5000, 0, -499950, -500000, 50000000])
        self.assertEqual(last(*calls, try_at(99)), [4951, 0, -495050, -500000, 4950000000])
        self.assertEqual(last(*calls, try_at(100)), [4950, 1, -495000, -500000, 5000000000])
        self.assertEqual(last(*calls, try_at(2000)), [4000, 1, -400000, -500000, 100000000000])

    def test_money_out(self):
        calls = (sells(0, 10000), order(MONEY_OUT, 500000))
        self.assertEqual(last(*calls, try_at(0)), [5000, 0, -500000, -500000, 0])
        self.assertEqual(last(*calls, try_at(1)), [5000, 0, -500000, -500051, 51000000])
        self.assertEqual(last(*calls, try_at(98)), [5000, 0, -500000, -504949, 4949000000])
        self.assertEqual(last(*calls, try_at(99)), [5000, 1, -500000, -505000, 5000000000])
        self.assertEqual(last(*calls, try_at(2000)), [5000, 1, -500000, -625000, 125000000000])

    def test_in_orders_are_done_plain(self):
        calls = (buys(0, 500000), sells(0, 10000), order(UNITS_OUT, 5000), order(MONEY_IN, 4000),
                 order(MONEY_OUT, 9800), order(UNITS_IN, 600))
        self.assertEqual(last(*calls, try_at(0)), [102, 0, -10200, -10200, 0])
        self.assertEqual(last(*calls, try_at(200)), [101, 1, -10100, -10400, 300000000])

    def test_a_flow_turned_by_the_swing(self):
        calls = (buys(0, 1000000), sells(0, 1000000), order(UNITS_OUT, 100000), order(MONEY_IN, 90000))
        self.assertEqual(last(*calls, try_at(0)), [10000, 0, -10000, -10000, 0])
        self.assertEqual(last(*calls, try_at(999)), [10, 1, -10, -10000, 9990000000])
        self.assertEqual(last(*calls, try_at(1000)), [0, 1, 0, -10000, 10000000000])
        self.assertEqual(last(*calls, try_at(2000)), [0, 1, 10000, -10000, 20000000000])


class NeitherTest(unittest.TestCase):
    def assert_all_swings(self, calls, answer):
        for swing in (0, 1, 77, 2000):
            self.assertEqual(last(*calls, try_at(swing)), answer, swing)

    def test_no_orders(self):
        self.assert_all_swings((), [0, 1, 0, 0, 0])
        self.assert_all_swings((buys(0, 1000000), sells(0, 1000000)), [0, 1, 0, 0, 0])

    def test_no_orders_any_more(self):
        self.assert_all_swings(RICH + (point(),), [0, 1, 0, 0, 0])
        self.assert_all_swings(RICH + (begin(7, 7),), [0, 1, 0, 0, 0])
        self.assert_all_swings((order(0, 5), withdraw(1)), [0, 1, 0, 0, 0])

    def test_as_much_in_as_out(self):
        tiers = (buys(0, 1000000), sells(0, 1000000))
        self.assert_all_swings(tiers + (order(MONEY_IN, 1000), order(MONEY_OUT, 1000)), [0, 1, 0, 0, 0])
        self.assert_all_swings(tiers + (order(UNITS_IN, 1000), order(UNITS_OUT, 1000)), [0, 1, 0, 0, 0])

    def test_units_that_are_worth_nothing(self):
        self.assert_all_swings((begin(1, 1000000), sells(0, 1000000), order(UNITS_OUT, 10)), [0, 1, 0, -10, 10])


class WhateverTest(unittest.TestCase):
    """What does and what doesn't matter to it."""

    def setUp(self):
        self.calls = (buys(0, 10000), order(MONEY_IN, 500000))
        self.fails = [5000, 0, 500000, 495049, 4951000000]
        self.covers = [5000, 1, 500000, 495000, 5000000000]

    def assert_as_ever(self, rules):
        self.assertEqual(ask(*self.calls, rules, try_at(100), try_at(101))[-2:], [self.fails, self.covers], rules)

    def test_each_mode(self):
        for mode in (0, 1, 2, 3):
            self.assert_as_ever(policy(mode, 300, 400))

    def test_a_side_that_does_not_weigh_enough(self):
        for mode in (0, 1, 2, 3):
            self.assert_as_ever(policy(mode, 300, 400, threshold=500000))
            self.assert_as_ever(policy(mode, 300, 400, threshold=1000000))

    def test_above_the_greatest_swing(self):
        for greatest in (0, 5, 100):
            self.assert_as_ever(policy(2, greatest=greatest))

    def test_factor(self):
        # 4951 coins kept of 5000 are 990200 millionths.
        self.assertEqual(last(*self.calls, policy(factor=990200), try_at(100))[1], 1)
        self.assertEqual(last(*self.calls, policy(factor=990201), try_at(100))[1], 0)
        self.assertEqual(last(*self.calls, policy(factor=0), try_at(0)), [5000, 1, 500000, 500000, 0])
        self.assertEqual(last(*self.calls, policy(factor=1), try_at(0)), [5000, 0, 500000, 500000, 0])

    def test_value_of_now(self):
        self.assertEqual(last(*self.calls, result(1000000), try_at(0)), [5000, 0, 500000, 250000, 0])


class KeptTest(unittest.TestCase):
    def test_what_roundings_keep(self):
        # 5 coins make 1 unit of 3 and a third: 5 thirds of a coin are kept, told times the units.
        self.assertEqual(last(begin(10, 3), buys(0, 200000), order(MONEY_IN, 5), try_at(0)), [1, 1, 5, 1, 5])
        self.assertEqual(last(begin(10, 3), buys(0, 400000), order(MONEY_IN, 5), try_at(0)), [2, 0, 5, 1, 5])

    def test_long_numbers(self):
        self.assertEqual(last(begin(10 ** 12, 10 ** 18), order(MONEY_IN, 10 ** 12), try_at(2000)),
                         [0, 1, 10 ** 12, 833333333333333333, 166666666666666667 * 10 ** 12])
        forty = [order(MONEY_OUT, 10 ** 12)] * 40
        self.assertEqual(last(begin(1, 10 ** 18), *forty, try_at(2000)),
                         [0, 1, -40 * 10 ** 12, -50 * 10 ** 30, 10 ** 31])


class RangeTest(unittest.TestCase):
    def test_edges_are_taken(self):
        self.assertEqual([len(answer) for answer in ask(*RICH, try_at(0), try_at(2000))[-2:]], [5, 5])
        self.assertEqual([len(answer) for answer in ask(try_at(0), try_at(2000))], [5, 5])

    def test_beyond_the_range(self):
        assert_ranges(self, RICH, try_at(5), ((0, 2000),))
        assert_ranges(self, RICH + (point(),), try_at(5), ((0, 2000),))
        assert_ranges(self, (), try_at(5), ((0, 2000),))

    def test_changes_nothing(self):
        for before in ((), RICH, RICH + (point(),)):
            for swing in (0, 1, 101, 2000):
                assert_changes_nothing(self, before, try_at(swing))


if __name__ == "__main__":
    unittest.main()
