import unittest

from tests.helper import (LEAST, MOST, RICH, ask, assert_refused, begin, buys, last, order, point, result,
                          sells)

SIX = (0, 0, 1, 10, 2, 20, 3, 30, 4, 40, 5, 1000000)


def both(*row):
    return (buys(*row), sells(*row))


def buying(row, amount):
    """What buying for the amount costs, at the plain price."""
    return last(buys(*row), order(0, amount), point())[2]


def selling(row, amount):
    """What selling for the amount costs, at the plain price."""
    return last(begin(10 ** 12, 10 ** 12), sells(*row), order(3, amount), point())[2]


class FormTest(unittest.TestCase):
    def assert_taken(self, row, count):
        for call in both(*row):
            self.assertEqual(ask(call), [[count]], row)

    def assert_not_the_form(self, row):
        for call in both(*row):
            assert_refused(self, RICH, call, -2)
            assert_refused(self, (), call, -2)

    def test_empty(self):
        self.assert_taken((), 0)

    def test_one_to_six_tiers(self):
        for count in range(1, 7):
            self.assert_taken(SIX[:2 * count], count)

    def test_seven_tiers(self):
        self.assert_not_the_form(SIX + (6, 1000000))

    def test_odd_length(self):
        for count in (1, 3, 5, 11):
            self.assert_not_the_form(SIX[:count])
        self.assert_not_the_form(SIX + (6,))

    def test_from_not_greater_than_the_one_before(self):
        self.assert_not_the_form((10, 1, 10, 2))
        self.assert_not_the_form((10, 1, 9, 2))
        self.assert_not_the_form((1, 1, 2, 2, 3, 3, 4, 4, 5, 5, 5, 6))
        self.assert_taken((10, 1, 11, 2), 2)

    def test_rate_not_less_than_the_one_before(self):
        self.assert_not_the_form((10, 2, 11, 1))
        self.assert_not_the_form((1, 1, 2, 2, 3, 3, 4, 4, 5, 5, 6, 4))
        self.assert_taken((10, 2, 11, 2), 2)

    def test_edges_of_from(self):
        self.assert_taken((0, 5), 1)
        self.assert_taken((10 ** 12, 5), 1)
        self.assert_taken((0, 5, 10 ** 12, 5), 2)
        for wrong in (-1, 10 ** 12 + 1, LEAST, MOST):
            self.assert_not_the_form((wrong, 5))
        self.assert_not_the_form((-1, 5, 3, 5))
        self.assert_not_the_form((3, 5, 10 ** 12 + 1, 5))

    def test_edges_of_rate(self):
        self.assert_taken((5, 0), 1)
        self.assert_taken((5, 1000000), 1)
        self.assert_taken((5, 0, 6, 1000000), 2)
        for wrong in (-1, 1000001, LEAST, MOST):
            self.assert_not_the_form((5, wrong))
        self.assert_not_the_form((5, -1, 6, 0))
        self.assert_not_the_form((5, 0, 6, 1000001))

    def test_long_row(self):
        row = []
        for step in range(200):
            row.extend([step, step])
        self.assert_not_the_form(row)
        self.assertEqual(ask(buys(*row), sells(*row), result(7)), [[-2], [-2], [1000007]])

    def test_row_of_numbers_that_look_like_calls(self):
        self.assertEqual(ask(buys(7, 7), sells(0, 4), result(0)), [[1], [1], [1000000]])


class WhichTiersTest(unittest.TestCase):
    def test_buys_are_for_the_side_in_alone(self):
        self.assertEqual(last(buys(0, 10000), order(0, 1000), point())[2], 10)
        self.assertEqual(last(buys(0, 10000), order(3, 1000), point())[2], 0)

    def test_sells_are_for_the_side_out_alone(self):
        self.assertEqual(last(sells(0, 10000), order(3, 1000), point())[2], 10)
        self.assertEqual(last(sells(0, 10000), order(0, 1000), point())[2], 0)

    def test_later_tiers_replace_earlier_ones(self):
        self.assertEqual(last(buys(0, 10000, 5, 20000), buys(100, 10000), order(0, 1000), point())[2], 9)
        self.assertEqual(last(buys(0, 10000), buys(), order(0, 1000), point())[2], 0)
        self.assertEqual(last(sells(0, 10000), sells(), order(3, 1000), point())[2], 0)

    def test_refused_tiers_leave_those_before(self):
        self.assertEqual(last(buys(0, 10000), buys(0, 20000, 0, 20000), order(0, 1000), point())[2], 10)
        self.assertEqual(last(sells(0, 10000), sells(0, 20000, 5), order(3, 1000), point())[2], 10)

    def test_tiers_stay_behind_a_point(self):
        told = ask(buys(0, 10000), order(0, 1000), point(), order(0, 2000), point())
        self.assertEqual([told[2][2], told[4][2]], [10, 20])


class CostTest(unittest.TestCase):
    def assert_costs(self, row, costs):
        for amount, cost in costs.items():
            self.assertEqual(buying(row, amount), cost, amount)
            self.assertEqual(selling(row, amount), cost, amount)

    def test_at_below_and_above_each_from(self):
        self.assert_costs((100, 10000, 200, 20000, 300, 500000), {
            1: 0, 99: 0, 100: 0, 101: 1, 199: 1, 200: 1, 201: 2, 250: 2, 251: 3, 299: 3, 300: 3, 301: 4, 302: 4,
            303: 5, 400: 53})

    def test_first_from_zero(self):
        self.assert_costs((0, 1000000), {1: 1, 2: 2, 999999: 999999})

    def test_rounded_up_once_over_all_tiers(self):
        self.assert_costs((0, 1, 10, 1, 20, 1), {1: 1, 10: 1, 20: 1, 30: 1, 999: 1})
        self.assert_costs((0, 500000, 1, 500000, 2, 500000), {1: 1, 2: 1, 3: 2, 4: 2, 5: 3})

    def test_a_whole_cost_is_not_rounded(self):
        self.assert_costs((0, 1), {1000000 - 1: 1})
        self.assertEqual(selling((0, 1), 1000000), 1)
        self.assertEqual(selling((0, 1), 1000001), 2)

    def test_rate_zero(self):
        self.assert_costs((0, 0), {1: 0, 1000: 0})
        self.assert_costs((0, 0, 50, 1000000), {50: 0, 51: 1})

    def test_six_tiers(self):
        self.assert_costs(SIX, {5: 1, 6: 2, 7: 3, 15: 11})

    def test_no_tiers(self):
        self.assert_costs((), {1: 0, 999999: 0})

    def test_large_amounts(self):
        half = 5 * 10 ** 11
        told = last(begin(half, half), buys(7, 333333), order(0, half), point())
        self.assertEqual(told[2], 166666499998)


if __name__ == "__main__":
    unittest.main()
