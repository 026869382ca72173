import unittest

from tests.helper import (RICH, ask, assert_changes_nothing, begin, buys, found, last, order, point, policy, result,
                          sells, try_at, withdraw)

MONEY_IN, UNITS_IN, UNITS_OUT, MONEY_OUT = 0, 1, 2, 3

# The least swing that covers is 101.
IN = (buys(0, 10000), order(MONEY_IN, 500000))
# The least swing that covers is 100.
OUT = (sells(0, 10000), order(UNITS_OUT, 500000))


class FoundSwingTest(unittest.TestCase):
    def test_each_mode(self):
        for mode in (0, 1, 2, 3):
            self.assertEqual(last(*IN, policy(mode, 7, 8), found()), [1, 1, 101, 1], mode)
            self.assertEqual(last(*OUT, policy(mode, 7, 8), found()), [2, 1, 100, 1], mode)

    def test_zero(self):
        self.assertEqual(last(order(MONEY_IN, 500000), found()), [1, 1, 0, 1])
        self.assertEqual(last(order(UNITS_OUT, 500000), found()), [2, 1, 0, 1])
        self.assertEqual(last(buys(500000, 1000000), sells(0, 1000000), order(MONEY_IN, 500000), found()),
                         [1, 1, 0, 1])
        self.assertEqual(last(begin(10, 3), buys(0, 200000), order(MONEY_IN, 5), found()), [1, 1, 0, 1])

    def test_between_for_each_kind(self):
        tiers = (buys(0, 10000), sells(0, 10000))
        self.assertEqual(last(*tiers, order(MONEY_IN, 500000), found()), [1, 1, 101, 1])
        self.assertEqual(last(*tiers, order(UNITS_IN, 500000), found()), [1, 1, 102, 1])
        self.assertEqual(last(*tiers, order(UNITS_OUT, 500000), found()), [2, 1, 100, 1])
        self.assertEqual(last(*tiers, order(MONEY_OUT, 500000), found()), [2, 1, 99, 1])

    def test_one(self):
        self.assertEqual(last(buys(0, 1), order(MONEY_IN, 9999), found()), [1, 1, 1, 1])

    def test_both_sides_together(self):
        self.assertEqual(last(*IN, order(UNITS_OUT, 200000), found()), [1, 1, 61, 1])

    def test_it_is_the_least_that_covers(self):
        for calls in (IN, OUT, IN + (order(UNITS_OUT, 200000),), OUT + (order(UNITS_IN, 99999),), RICH):
            swing = last(*calls, policy(), found())[2]
            self.assertGreater(swing, 0)
            self.assertEqual([last(*calls, policy(), try_at(less))[1] for less in range(swing)], [0] * swing)
            self.assertEqual(last(*calls, policy(), try_at(swing))[1], 1)

    def test_a_point_of_mode_found_takes_it(self):
        for greatest in (0, 60, 100, 101, 2000):
            for calls in (IN, OUT, IN + (order(UNITS_OUT, 200000),)):
                told = ask(*calls, policy(2, greatest=greatest), found(), point())
                self.assertEqual(told[-1][:2], [told[-2][0], told[-2][2]])

    def test_value_of_now(self):
        self.assertEqual(last(*OUT, result(1000000), found()), [2, 1, 100, 1])
        # Nine units are worth 4 coins and a half, and 6 have to come in; then 9, and 10 have to.
        calls = (begin(500000, 1000000), buys(0, 10000), order(UNITS_IN, 9))
        self.assertEqual(last(*calls, found()), [1, 1, 1112, 1])
        self.assertEqual(last(*calls, result(500000), found()), [1, 1, 1, 1])


class GreatestTest(unittest.TestCase):
    def test_none_below_it_covers(self):
        self.assertEqual(last(*IN, policy(greatest=1), found()), [1, 1, 1, 0])
        self.assertEqual(last(*IN, policy(greatest=100), found()), [1, 1, 100, 0])
        self.assertEqual(last(*OUT, policy(greatest=99), found()), [2, 1, 99, 0])

    def test_itself_covers(self):
        self.assertEqual(last(*IN, policy(greatest=101), found()), [1, 1, 101, 1])
        self.assertEqual(last(*OUT, policy(greatest=100), found()), [2, 1, 100, 1])

    def test_one_below_it_covers(self):
        self.assertEqual(last(*IN, policy(greatest=102), found()), [1, 1, 101, 1])
        self.assertEqual(last(*OUT, policy(greatest=101), found()), [2, 1, 100, 1])

    def test_of_zero(self):
        self.assertEqual(last(*IN, policy(greatest=0), found()), [1, 1, 0, 0])
        self.assertEqual(last(*OUT, policy(greatest=0), found()), [2, 1, 0, 0])
        self.assertEqual(last(*IN, buys(), policy(greatest=0), found()), [1, 1, 0, 1])
        self.assertEqual(last(policy(greatest=0), found()), [0, 0, 0, 1])

    def test_of_two_thousand(self):
        self.assertEqual(last(buys(0, 1000000), order(UNITS_IN, 10000), found()), [1, 1, 2000, 0])
        self.assertEqual(last(sells(0, 1000000), order(UNITS_OUT, 10000), found()), [2, 1, 2000, 0])
        # At the greatest swing 2000 coins are kept, as many as trading costs; at one less the cost is more.
        self.assertEqual(last(buys(0, 166666), order(UNITS_IN, 10000), found()), [1, 1, 2000, 1])
        self.assertEqual(last(sells(0, 250000), order(UNITS_OUT, 10000), found()), [2, 1, 2000, 1])


class EnoughTest(unittest.TestCase):
    def test_the_swing_is_told_all_the_same(self):
        for mode in (0, 1, 2, 3):
            self.assertEqual(last(*IN, policy(mode, threshold=499999), found()), [1, 1, 101, 1])
            self.assertEqual(last(*IN, policy(mode, threshold=500000), found()), [1, 0, 101, 1])
            self.assertEqual(last(*OUT, policy(mode, threshold=499999), found()), [2, 1, 100, 1])
            self.assertEqual(last(*OUT, policy(mode, threshold=500000), found()), [2, 0, 100, 1])

    def test_with_a_greatest_that_does_not_cover(self):
        self.assertEqual(last(*IN, policy(2, threshold=1000000, greatest=100), found()), [1, 0, 100, 0])

    def test_the_value_moves_it(self):
        self.assertEqual(last(*IN, policy(threshold=499999), result(2), found())[1], 1)
        self.assertEqual(last(*IN, policy(threshold=499999), result(3), found())[1], 0)
        self.assertEqual(last(*IN, policy(threshold=500000), result(-1), found())[1], 1)


class FactorTest(unittest.TestCase):
    def test_zero(self):
        self.assertEqual(last(*IN, policy(factor=0), found()), [1, 1, 0, 1])
        self.assertEqual(last(*OUT, policy(factor=0), found()), [2, 1, 0, 1])
        self.assertEqual(last(*IN, policy(factor=0, greatest=0), found()), [1, 1, 0, 1])

    def test_between(self):
        self.assertEqual(last(*IN, policy(factor=500000), found()), [1, 1, 51, 1])
        self.assertEqual(last(*IN, policy(factor=990200), found()), [1, 1, 100, 1])
        self.assertEqual(last(*IN, policy(factor=990201), found()), [1, 1, 101, 1])
        self.assertEqual(last(*IN, policy(factor=990200, greatest=100), found()), [1, 1, 100, 1])


class NeitherTest(unittest.TestCase):
    def test_no_orders(self):
        for mode in (0, 1, 2, 3):
            for threshold in (0, 1, 1000000):
                for greatest in (0, 1, 2000):
                    rules = policy(mode, 5, 5, threshold=threshold, greatest=greatest)
                    self.assertEqual(last(rules, buys(0, 1000000), found()), [0, 0, 0, 1])
        self.assertEqual(last(found()), [0, 0, 0, 1])

    def test_no_orders_any_more(self):
        self.assertEqual(last(*RICH, point(), found()), [0, 0, 0, 1])
        self.assertEqual(last(*RICH, begin(7, 7), found()), [0, 0, 0, 1])
        self.assertEqual(last(*IN, withdraw(1), found()), [0, 0, 0, 1])

    def test_as_much_in_as_out(self):
        calls = (buys(0, 1000000), sells(0, 1000000), order(UNITS_IN, 1000), order(UNITS_OUT, 1000))
        for mode in (0, 1, 2, 3):
            self.assertEqual(last(*calls, policy(mode, 5, 5), found()), [0, 0, 0, 1])

    def test_changes_nothing(self):
        for before in ((), RICH, RICH + (point(),), IN, OUT + (policy(3),)):
            assert_changes_nothing(self, before, found())


if __name__ == "__main__":
    unittest.main()
