import unittest

from tests.helper import RICH, ask, assert_ranges, assert_refused, begin, last, order, point, result


class ResultTest(unittest.TestCase):
    def test_more_and_less(self):
        self.assertEqual(ask(result(5), result(-15), result(0)), [[1000005], [999990], [999990]])

    def test_least_value(self):
        self.assertEqual(ask(begin(100, 7), result(-99), result(-1), result(0)), [[0], [1], [-7], [1]])
        self.assertEqual(ask(begin(10 ** 12, 7), result(-10 ** 12 + 1)), [[0], [1]])

    def test_greatest_value(self):
        self.assertEqual(ask(begin(100, 7), result(10 ** 12 - 100), result(1), result(0)),
                         [[0], [10 ** 12], [-8], [10 ** 12]])
        self.assertEqual(ask(begin(1, 7), result(10 ** 12 - 1)), [[0], [10 ** 12]])

    def test_edges_of_the_range(self):
        assert_refused(self, RICH, result(-10 ** 12), -7)
        assert_refused(self, RICH, result(10 ** 12), -8)
        assert_refused(self, (begin(10 ** 12, 1),), result(-10 ** 12), -7)
        assert_refused(self, (begin(1, 1),), result(10 ** 12), -8)

    def test_beyond_the_range_goes_before_the_others(self):
        assert_ranges(self, RICH, result(0), ((-10 ** 12, 10 ** 12),))
        assert_ranges(self, (), result(0), ((-10 ** 12, 10 ** 12),))

    def test_too_little_and_too_much_nothing_has_changed(self):
        for more in (-700000, -700001, -10 ** 12):
            assert_refused(self, RICH, result(more), -7)
        for more in (10 ** 12 - 699999, 10 ** 12):
            assert_refused(self, RICH, result(more), -8)

    def test_moves_the_price_of_orders_already_there(self):
        self.assertEqual(last(order(2, 1000), result(1000000), point()), [2, 0, 0, 0, 1998000, 999000])


if __name__ == "__main__":
    unittest.main()
