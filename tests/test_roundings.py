import unittest

from tests.helper import begin, buys, last, order, point, policy, sells

MONEY_IN, UNITS_IN, UNITS_OUT, MONEY_OUT = 0, 1, 2, 3


class LongNumbersTest(unittest.TestCase):
    """Numbers that only whole numbers of any length hold."""

    def test_plain(self):
        self.assertEqual(last(begin(3, 6 * 10 ** 17 + 1), order(MONEY_IN, 1), point()),
                         [1, 0, 0, 0, 4, 800000000000000001])
        self.assertEqual(last(begin(500000000000, 3), order(UNITS_IN, 1), point()), [1, 0, 0, 0, 666666666667, 4])
        self.assertEqual(last(begin(500000000000, 3), order(UNITS_OUT, 1), point()), [2, 0, 0, 0, 333333333334, 2])
        self.assertEqual(last(begin(3, 10 ** 18), order(MONEY_OUT, 1), point()),
                         [2, 0, 0, 0, 2, 666666666666666666])

    def test_at_a_swing(self):
        fixed = policy(1, 7, 7)
        self.assertEqual(last(begin(7, 10 ** 17 + 3), fixed, order(MONEY_IN, 3), point()),
                         [1, 7, 0, 0, 10, 142827163842453144])
        self.assertEqual(last(begin(7, 10 ** 17 + 3), fixed, order(MONEY_OUT, 3), point()),
                         [2, 7, 0, 0, 4, 57112836128146847])
        self.assertEqual(last(begin(499999999999, 7), fixed, order(UNITS_IN, 3), point()),
                         [1, 7, 0, 0, 714435714285, 10])
        self.assertEqual(last(begin(499999999999, 7), fixed, order(UNITS_OUT, 3), point()),
                         [2, 7, 0, 0, 285864285714, 4])

    def test_with_a_levy(self):
        calls = (begin(7, 10 ** 17 + 3), policy(3), buys(0, 1), sells(0, 1))
        self.assertEqual(last(*calls, order(MONEY_IN, 3), point()), [1, 0, 1, 0, 9, 128571428571428575])
        self.assertEqual(last(*calls, order(MONEY_OUT, 3), point()), [2, 0, 1, 0, 3, 42857142857142858])

    def test_lacking(self):
        # One coin in keeps the whole cost of a coin; two keep all of it but one part of the units.
        calls = (begin(10 ** 11, 10 ** 11 - 1), buys(0, 1))
        self.assertEqual(last(*calls, order(MONEY_IN, 1), point()), [1, 0, 1, 0, 10 ** 11, 10 ** 11 - 1])
        self.assertEqual(last(*calls, order(MONEY_IN, 2), point()), [1, 0, 1, 1, 10 ** 11 + 1, 10 ** 11])


class OneRoundingTest(unittest.TestCase):
    """Where a price that is rounded on its own, or a swing, would lead elsewhere."""

    def test_price_is_not_rounded(self):
        self.assertEqual(last(begin(10, 3), order(UNITS_IN, 3000), point()), [1, 0, 0, 0, 10010, 3003])
        self.assertEqual(last(begin(10007, 3001), order(UNITS_OUT, 3000), point()), [2, 0, 0, 0, 4, 1])
        self.assertEqual(last(begin(3, 10), order(MONEY_IN, 3000), point()), [1, 0, 0, 0, 3003, 10010])
        self.assertEqual(last(begin(3001, 10007), order(MONEY_OUT, 3000), point()), [2, 0, 0, 0, 1, 3])

    def test_swung_price_is_not_rounded(self):
        self.assertEqual(last(begin(1, 1), policy(1, 1), order(UNITS_IN, 10000), point()), [1, 1, 0, 0, 10002, 10001])
        self.assertEqual(last(begin(1, 1), policy(1, 1), order(MONEY_IN, 10001), point()), [1, 1, 0, 0, 10002, 10001])
        self.assertEqual(last(begin(10001, 10001), policy(1, 0, 1), order(UNITS_OUT, 10000), point()),
                         [2, 1, 0, 0, 2, 1])
        self.assertEqual(last(begin(10001, 10001), policy(1, 0, 1), order(MONEY_OUT, 9999), point()),
                         [2, 1, 0, 0, 2, 1])

    def test_each_order_is_rounded_by_itself(self):
        two_in = (begin(10, 3), order(UNITS_IN, 1), order(UNITS_IN, 1))
        self.assertEqual(last(*two_in, point()), [1, 0, 0, 0, 18, 5])
        two_out = (begin(10, 3), order(UNITS_OUT, 1), order(UNITS_OUT, 1))
        self.assertEqual(last(*two_out, point()), [2, 0, 0, 0, 4, 1])

    def test_side_is_by_rounded_money(self):
        # Four coins in for a unit that is worth 3 and a third, three coins out for such a unit.
        self.assertEqual(last(begin(10, 3), order(UNITS_IN, 1), order(UNITS_OUT, 1), point()), [1, 0, 0, 0, 11, 3])


if __name__ == "__main__":
    unittest.main()
