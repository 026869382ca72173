import unittest

from tests.helper import (RICH, ask, assert_changes_nothing, assert_ranges, assert_refused, begin, buys, last, order,
                          outcome, point, policy, result, sells, withdraw)

MONEY_IN, UNITS_IN, UNITS_OUT, MONEY_OUT = 0, 1, 2, 3

TIERS = (buys(0, 10000), sells(0, 10000))


def outcomes(*calls):
    """The outcomes of the orders 1, 2, 3, ... of the calls."""
    count = len([call for call in calls if call[0] == 4])
    return ask(*calls, *[outcome(number) for number in range(1, count + 1)])[len(calls):]


class ModeNoneTest(unittest.TestCase):
    def test_each_kind(self):
        self.assertEqual(outcomes(order(MONEY_IN, 5000), order(UNITS_IN, 3000), order(UNITS_OUT, 800),
                                  order(MONEY_OUT, 40), point()),
                         [[0, 5000, 5000], [0, 3000, 3000], [0, -800, -800], [0, -40, -40]])

    def test_each_kind_is_rounded_for_the_fund(self):
        self.assertEqual(outcomes(begin(1000, 300), order(MONEY_IN, 9), order(UNITS_IN, 1), order(UNITS_OUT, 1),
                                  order(MONEY_OUT, 4), point()), [[0, 9, 2], [0, 4, 1], [0, -3, -1], [0, -4, -2]])

    def test_nothing_for_little(self):
        self.assertEqual(outcomes(begin(1000, 3), order(MONEY_IN, 9), point()), [[0, 9, 0]])
        self.assertEqual(outcomes(begin(3, 1000), order(UNITS_OUT, 9), point()), [[0, 0, -9]])

    def test_neither_side(self):
        self.assertEqual(outcomes(policy(1, 5, 5), order(UNITS_IN, 70), order(UNITS_OUT, 70), point()),
                         [[0, 70, 70], [0, -70, -70]])


class ModeFixedTest(unittest.TestCase):
    def test_side_in(self):
        self.assertEqual(outcomes(policy(1, 100, 200), order(MONEY_IN, 10100), order(UNITS_IN, 5000),
                                  order(UNITS_OUT, 4000), order(MONEY_OUT, 600), point()),
                         [[0, 10100, 10000], [0, 5050, 5000], [0, -4000, -4000], [0, -600, -600]])

    def test_side_out(self):
        self.assertEqual(outcomes(policy(1, 100, 200), order(MONEY_IN, 4000), order(UNITS_IN, 600),
                                  order(UNITS_OUT, 5000), order(MONEY_OUT, 9800), point()),
                         [[0, 4000, 4000], [0, 600, 600], [0, -4900, -5000], [0, -9800, -10000]])

    def test_a_side_that_does_not_weigh_enough(self):
        self.assertEqual(outcomes(policy(1, 100, 200, threshold=10100), order(MONEY_IN, 10100), point()),
                         [[0, 10100, 10100]])


class ModeFoundTest(unittest.TestCase):
    def test_each_kind(self):
        found = (policy(2),) + TIERS
        self.assertEqual(outcomes(*found, order(MONEY_IN, 500000), point()), [[0, 500000, 495000]])
        self.assertEqual(outcomes(*found, order(UNITS_IN, 500000), point()), [[0, 505100, 500000]])
        self.assertEqual(outcomes(*found, order(UNITS_OUT, 500000), point()), [[0, -495000, -500000]])
        self.assertEqual(outcomes(*found, order(MONEY_OUT, 500000), point()), [[0, -500000, -505000]])

    def test_both_sides(self):
        self.assertEqual(outcomes(policy(2), *TIERS, order(MONEY_IN, 500000), order(UNITS_OUT, 200000), point()),
                         [[0, 500000, 496968], [0, -200000, -200000]])


class ModeLeviesTest(unittest.TestCase):
    def test_each_kind(self):
        levies = (policy(3),) + TIERS
        self.assertEqual(outcomes(*levies, order(MONEY_IN, 1000), order(UNITS_IN, 2000), point()),
                         [[10, 1000, 990], [20, 2020, 2000]])
        self.assertEqual(outcomes(*levies, order(UNITS_OUT, 1000), order(MONEY_OUT, 2000), point()),
                         [[10, -990, -1000], [20, -2000, -2020]])

    def test_both_sides(self):
        levies = (policy(3), buys(0, 100000), sells(0, 100000))
        self.assertEqual(outcomes(*levies, order(UNITS_OUT, 500), order(MONEY_IN, 700), order(MONEY_OUT, 300),
                                  order(UNITS_IN, 300), point()),
                         [[0, -500, -500], [14, 700, 686], [0, -300, -300], [6, 306, 300]])

    def test_as_great_as_the_money(self):
        whole = (policy(3), buys(0, 1000000), sells(0, 1000000))
        self.assertEqual(outcomes(*whole, order(MONEY_IN, 1000), point()), [[1000, 1000, 0]])
        self.assertEqual(outcomes(*whole, order(UNITS_OUT, 1000), point()), [[1000, 0, -1000]])

    def test_a_side_that_does_not_weigh_enough(self):
        self.assertEqual(outcomes(policy(3, threshold=1000), *TIERS, order(MONEY_IN, 1000), point()),
                         [[0, 1000, 1000]])


class WhichOrdersTest(unittest.TestCase):
    def test_no_point_yet(self):
        self.assertEqual(last(outcome(1)), [-4])
        self.assertEqual(last(order(0, 5), outcome(1)), [-4])

    def test_withdrawn_before_the_point(self):
        self.assertEqual(outcomes(order(0, 5), order(0, 6), order(0, 7), withdraw(2), point()),
                         [[0, 5, 5], [-4], [0, 7, 7]])

    def test_came_behind_the_point(self):
        self.assertEqual(outcomes(order(0, 5), point(), order(0, 6)), [[0, 5, 5], [-4]])

    def test_of_a_point_before_the_last(self):
        self.assertEqual(outcomes(order(0, 5), order(2, 9), point(), order(0, 6), point()), [[-4], [-4], [0, 6, 6]])

    def test_behind_a_refused_point(self):
        first = (order(0, 5), order(2, 9), point())
        stand = [[0, 5, 5], [0, -9, -9]]
        self.assertEqual(outcomes(*first, point()), stand)
        self.assertEqual(outcomes(*first, order(2, 10 ** 12), point()), stand + [[-4]])
        self.assertEqual(outcomes(*first, order(0, 10 ** 12), point()), stand + [[-4]])
        for mode in (1, 2, 3):
            self.assertEqual(outcomes(policy(mode), *first, order(3, 1000000), point()), stand + [[-4]])

    def test_behind_begin(self):
        self.assertEqual(outcomes(order(0, 5), point(), begin(1000000, 1000000)), [[-4]])
        self.assertEqual(outcomes(order(0, 5), point(), begin(0, 1000000)), [[0, 5, 5]])

    def test_stand_behind_other_calls(self):
        self.assertEqual(outcomes(order(0, 5), point(), result(70), policy(1, 5, 5), *TIERS, withdraw(1)), [[0, 5, 5]])

    def test_forty(self):
        forty = [order(step % 4, step + 1) for step in range(40)]
        signs = (1, 1, -1, -1)
        self.assertEqual(outcomes(*forty, point()),
                         [[0, signs[step % 4] * (step + 1), signs[step % 4] * (step + 1)] for step in range(40)])

    def test_long_numbers(self):
        self.assertEqual(outcomes(begin(1, 4 * 10 ** 17), order(0, 1), point()), [[0, 1, 4 * 10 ** 17]])

    def test_together_they_make_the_point(self):
        for mode in (0, 1, 2, 3):
            before = RICH + (policy(mode, 30, 40),)
            told = ask(*before, point(), outcome(1), outcome(2), outcome(3))
            dealt = told[len(before)]
            self.assertEqual(700000 + sum(each[1] for each in told[-3:]) - dealt[2], dealt[4])
            self.assertEqual(900000 + sum(each[2] for each in told[-3:]), dealt[5])
            self.assertEqual(sum(each[0] for each in told[-3:]), dealt[2] if mode == 3 else 0)


class RefusalTest(unittest.TestCase):
    def test_beyond_the_range(self):
        for before in ((), RICH, RICH + (point(),)):
            assert_ranges(self, before, outcome(1), ((1, 1000000),))

    def test_not_there(self):
        for before in ((), RICH, RICH + (point(),)):
            for number in (4, 5, 999999, 1000000):
                assert_refused(self, before, outcome(number), -4)
        assert_refused(self, (), outcome(1), -4)
        assert_refused(self, RICH, outcome(1), -4)

    def test_changes_nothing(self):
        for number in (1, 2, 3):
            assert_changes_nothing(self, RICH + (point(),), outcome(number))


if __name__ == "__main__":
    unittest.main()
