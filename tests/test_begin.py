import unittest

from tests.helper import (RICH, ask, assert_ranges, assert_refused, begin, buys, last, order, point, policy,
                          result, sells, withdraw)


class BeginTest(unittest.TestCase):
    def test_the_object_is_new_at_the_beginning(self):
        self.assertEqual(ask(result(0), order(2, 1), point()), [[1000000], [1], [2, 0, 0, 0, 999999, 999999]])

    def test_answers_zero_and_sets_value_and_units(self):
        self.assertEqual(ask(begin(500, 2000), result(0), order(2, 400), point()),
                         [[0], [500], [1], [2, 0, 0, 0, 400, 1600]])

    def test_least_numbers(self):
        self.assertEqual(ask(begin(1, 1), result(0), order(0, 5), point()), [[0], [1], [1], [1, 0, 0, 0, 6, 6]])

    def test_greatest_numbers(self):
        self.assertEqual(ask(begin(10 ** 12, 10 ** 18), result(0), order(2, 1), point()),
                         [[0], [10 ** 12], [1], [0, 0, 0, 0, 10 ** 12, 10 ** 18 - 1]])

    def test_beyond_the_ranges_nothing_has_changed(self):
        assert_ranges(self, RICH, begin(5, 5), ((1, 10 ** 12), (1, 10 ** 18)))
        assert_ranges(self, (), begin(5, 5), ((1, 10 ** 12), (1, 10 ** 18)))

    def test_both_numbers_wrong(self):
        assert_refused(self, RICH, begin(0, 0), -1)

    def test_makes_all_new(self):
        behind = (order(0, 300000), order(2, 5000), point(), order(2, 400000), point())
        self.assertEqual(ask(*RICH, begin(1000000, 1000000), *behind)[len(RICH) + 1:], ask(*behind))

    def test_orders_are_gone(self):
        told = ask(*RICH, begin(1000000, 1000000), point(), withdraw(1))
        self.assertEqual(told[-2:], [[-6], [-4]])

    def test_tiers_for_both_sides_are_gone(self):
        tiers = (buys(0, 1000000), sells(0, 1000000))
        self.assertEqual(last(*tiers, begin(1000, 1000), order(0, 10), point()), [1, 0, 0, 0, 1010, 1010])
        self.assertEqual(last(*tiers, begin(1000, 1000), order(3, 10), point()), [2, 0, 0, 0, 990, 990])

    def test_policy_is_as_at_first(self):
        self.assertEqual(last(policy(1, 100, 100), begin(1000, 1000), order(0, 101), point()),
                         [1, 0, 0, 0, 1101, 1101])


class FirstPolicyTest(unittest.TestCase):
    def test_mode_none(self):
        self.assertEqual(last(buys(0, 10000), order(0, 500000), point()), [1, 0, 5000, 5000, 1495000, 1500000])
        self.assertEqual(last(sells(0, 10000), order(2, 500000), point()), [2, 0, 5000, 5000, 495000, 500000])


if __name__ == "__main__":
    unittest.main()
