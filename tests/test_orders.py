import unittest

from tests.helper import (RICH, ask, assert_ranges, assert_refused, begin, last, order, point, withdraw)

FORTY = tuple(order(0, 100 + step) for step in range(40))


class OrderTest(unittest.TestCase):
    def test_numbers_come_one_by_one(self):
        self.assertEqual(ask(order(0, 5), order(3, 5), order(2, 5), order(1, 5)), [[1], [2], [3], [4]])

    def test_edges_are_taken(self):
        for kind in (0, 1, 2, 3):
            self.assertEqual(ask(order(kind, 1), order(kind, 10 ** 12)), [[1], [2]])

    def test_beyond_the_ranges_nothing_has_changed(self):
        assert_ranges(self, RICH, order(0, 5), ((0, 3), (1, 10 ** 12)))
        assert_ranges(self, (), order(3, 5), ((0, 3), (1, 10 ** 12)))
        assert_refused(self, RICH, order(4, 0), -1)

    def test_a_refused_order_has_no_number(self):
        self.assertEqual(ask(order(0, 5), order(0, 0), order(0, 5)), [[1], [-1], [2]])

    def test_forty_and_one_more(self):
        told = ask(*FORTY, order(0, 1), order(2, 10 ** 12), point())
        self.assertEqual(told[:40], [[number] for number in range(1, 41)])
        self.assertEqual(told[40:], [[-8], [-8], [1, 0, 0, 0, 1004780, 1004780]])

    def test_refused_at_forty_nothing_has_changed(self):
        told = ask(*FORTY, order(0, 1), withdraw(3), order(0, 7), order(0, 7), point(), order(0, 1))
        self.assertEqual(told[40:], [[-8], [0], [41], [-8], [1, 0, 0, 0, 1004685, 1004685], [42]])

    def test_range_goes_before_forty(self):
        self.assertEqual(ask(*FORTY, order(4, 5), order(0, 0), order(-1, 10 ** 12 + 1))[40:], [[-1], [-1], [-1]])

    def test_forty_again_behind_a_point(self):
        told = ask(*FORTY, point(), *FORTY, order(0, 1))
        self.assertEqual(told[41:], [[number] for number in range(41, 81)] + [[-8]])

    def test_numbers_start_at_one_again_behind_begin(self):
        self.assertEqual(ask(order(0, 5), order(0, 5), begin(10, 10), order(0, 5), order(0, 5)),
                         [[1], [2], [0], [1], [2]])

    def test_a_refused_begin_leaves_the_numbers(self):
        self.assertEqual(ask(order(0, 5), begin(0, 10), order(0, 5)), [[1], [-1], [2]])


class WithdrawTest(unittest.TestCase):
    def test_it_is_gone(self):
        self.assertEqual(ask(order(0, 5), order(0, 70), order(0, 900), withdraw(2), point()),
                         [[1], [2], [3], [0], [1, 0, 0, 0, 1000905, 1000905]])

    def test_first_last_and_only_one(self):
        three = (order(0, 5), order(0, 70), order(0, 900))
        self.assertEqual(last(*three, withdraw(1), point())[4], 1000970)
        self.assertEqual(last(*three, withdraw(3), point())[4], 1000075)
        self.assertEqual(ask(order(0, 5), withdraw(1), point()), [[1], [0], [-6]])

    def test_gone_already(self):
        self.assertEqual(ask(order(0, 5), order(0, 6), withdraw(1), withdraw(1), withdraw(2), withdraw(2)),
                         [[1], [2], [0], [-4], [0], [-4]])

    def test_gone_by_a_point_or_begin(self):
        self.assertEqual(ask(order(0, 5), point(), withdraw(1))[-1], [-4])
        self.assertEqual(ask(order(0, 5), begin(5, 5), withdraw(1))[-1], [-4])

    def test_not_there(self):
        for number in (4, 5, 1000000):
            assert_refused(self, RICH, withdraw(number), -4)
        assert_refused(self, (), withdraw(1), -4)

    def test_beyond_the_range(self):
        assert_ranges(self, RICH, withdraw(1), ((1, 1000000),))
        assert_ranges(self, (), withdraw(1), ((1, 1000000),))

    def test_numbers_go_on_behind_it(self):
        self.assertEqual(ask(order(0, 5), order(0, 5), withdraw(2), order(0, 5), withdraw(1), withdraw(3),
                             order(0, 5)), [[1], [2], [0], [3], [0], [0], [4]])

    def test_numbers_go_on_behind_a_point(self):
        self.assertEqual(ask(order(0, 5), order(0, 5), point(), order(0, 5), withdraw(2), withdraw(3)),
                         [[1], [2], [1, 0, 0, 0, 1000010, 1000010], [3], [-4], [0]])


if __name__ == "__main__":
    unittest.main()
