import unittest

from tests.helper import (RICH, ask, assert_refused, begin, buys, last, order, point, policy, result, sells,
                          withdraw)

MOST_VALUE = 10 ** 12
MOST_UNITS = 10 ** 18


class NoOrdersTest(unittest.TestCase):
    def test_at_the_beginning(self):
        assert_refused(self, (), point(), -6)

    def test_behind_a_point(self):
        assert_refused(self, RICH + (point(),), point(), -6)

    def test_behind_begin_and_withdraw(self):
        assert_refused(self, RICH + (begin(5, 5),), point(), -6)
        assert_refused(self, RICH + (withdraw(1), withdraw(2), withdraw(3)), point(), -6)

    def test_in_each_mode(self):
        for mode in (0, 1, 2, 3):
            assert_refused(self, (policy(mode, 5, 5),), point(), -6)


class TooLittleTest(unittest.TestCase):
    def test_no_units_left(self):
        self.assertEqual(last(begin(10, 1), order(3, 1), point()), [-7])
        self.assertEqual(last(order(2, 1000000), point()), [-7])
        self.assertEqual(last(order(2, 999999), point()), [2, 0, 0, 0, 1, 1])

    def test_more_units_than_there_are(self):
        self.assertEqual(last(order(2, 10 ** 12), point()), [-7])
        self.assertEqual(last(begin(10, 1000), order(2, 999), order(2, 1), point()), [-7])

    def test_units_alone(self):
        self.assertEqual(last(begin(1, 5), order(2, 5), order(0, 7), withdraw(2), point()), [-7])
        self.assertEqual(last(begin(10, 5), order(3, 9), point()), [-7])
        self.assertEqual(last(begin(10, 5), order(3, 8), point()), [2, 0, 0, 0, 2, 1])

    def test_value_alone(self):
        calls = (sells(0, 1000000), order(3, 5), point())
        self.assertEqual(last(begin(9, 900), *calls), [-7])
        self.assertEqual(last(begin(10, 1000), *calls), [-7])
        self.assertEqual(last(begin(11, 1100), *calls), [2, 0, 5, 5, 1, 600])

    def test_all_money_out(self):
        self.assertEqual(last(order(3, 1000000), point()), [-7])
        self.assertEqual(last(order(3, 999999), point()), [2, 0, 0, 0, 1, 1])

    def test_in_orders_make_up_for_it(self):
        self.assertEqual(last(order(2, 1000000), order(1, 1), point()), [2, 0, 0, 0, 1, 1])

    def test_goes_before_too_much(self):
        # The value would be above its bound and no units would be left.
        calls = (begin(MOST_VALUE, 1), order(0, 10 ** 11), order(3, 1))
        self.assertEqual(last(*calls, point()), [-7])
        assert_refused(self, calls, point(), -7)

    def test_a_swing_or_levies_may_leave_enough_or_too_little(self):
        calls = (begin(100, 100), sells(0, 1000000), order(2, 50))
        self.assertEqual(last(*calls, point()), [-7])
        self.assertEqual(last(*calls, policy(1, 0, 2000), point()), [2, 2000, 40, 30, 20, 50])
        self.assertEqual(last(*calls, policy(2), point()), [2, 2000, 40, 30, 20, 50])
        self.assertEqual(last(*calls, policy(3), point()), [2, 0, 50, 0, 50, 50])

    def test_nothing_has_changed(self):
        for mode in (0, 1, 2, 3):
            calls = RICH + (policy(mode, 3, 4), order(2, 980000))
            assert_refused(self, calls, point(), -7)
            told = ask(*calls, point(), withdraw(4), point())
            self.assertEqual(told[-1], last(*calls, withdraw(4), point()))
            self.assertEqual(len(told[-1]), 6)


class TooMuchTest(unittest.TestCase):
    def test_value(self):
        self.assertEqual(last(begin(MOST_VALUE - 5, 10), order(0, 5), point()), [1, 0, 0, 0, MOST_VALUE, 10])
        self.assertEqual(last(begin(MOST_VALUE - 5, 10), order(0, 6), point()), [-8])
        self.assertEqual(last(begin(MOST_VALUE, 10), order(0, MOST_VALUE), point()), [-8])

    def test_value_less_the_cost(self):
        calls = (begin(MOST_VALUE, 10), buys(0, 1000000), order(0, 6))
        self.assertEqual(last(*calls, point()), [1, 0, 6, 0, MOST_VALUE, 10])
        self.assertEqual(last(*calls, buys(0, 830000), point()), [-8])

    def test_units(self):
        self.assertEqual(last(begin(1, MOST_UNITS - 5), order(1, 5), point()), [1, 0, 0, 0, 2, MOST_UNITS])
        self.assertEqual(last(begin(1, MOST_UNITS - 5), order(1, 6), point()), [-8])
        self.assertEqual(last(begin(2, MOST_UNITS), order(0, 1), point()), [-8])

    def test_out_orders_make_up_for_it(self):
        self.assertEqual(last(begin(MOST_VALUE, 10 ** 13), order(0, 50), order(3, 50), point()),
                         [0, 0, 0, 0, MOST_VALUE, 10 ** 13])

    def test_many_great_orders(self):
        orders = tuple(order(step % 2, MOST_VALUE) for step in range(40))
        for mode in (0, 1, 2, 3):
            calls = (begin(MOST_VALUE, MOST_UNITS), policy(mode, 5, 5), buys(0, 999999)) + orders
            self.assertEqual(last(*calls, point()), [-8])

    def test_nothing_has_changed(self):
        for mode in (0, 1, 2, 3):
            calls = RICH + (policy(mode, 3, 4), order(0, MOST_VALUE), order(0, MOST_VALUE))
            assert_refused(self, calls, point(), -8)
            behind = (withdraw(4), withdraw(5), point(), result(0))
            told = ask(*calls, point(), *behind)
            self.assertEqual(told[-4:], ask(*calls, *behind)[-4:])
            self.assertEqual(len(told[-2]), 6)


if __name__ == "__main__":
    unittest.main()
