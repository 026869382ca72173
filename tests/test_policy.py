import unittest

from tests.helper import RICH, ask, assert_ranges, assert_refused, buys, last, order, point, policy

RANGES = ((0, 3), (0, 2000), (0, 2000), (0, 1000000), (0, 1000000), (0, 2000))


class PolicyTest(unittest.TestCase):
    def test_edges_are_taken(self):
        for place, bounds in enumerate(RANGES, start=1):
            for number in bounds:
                call = policy(1, 1, 1, 1, 1, 1)
                call[place] = number
                self.assertEqual(ask(call), [[0]], call)
        self.assertEqual(ask(policy(0, 0, 0, 0, 0, 0), policy(3, 2000, 2000, 1000000, 1000000, 2000)), [[0], [0]])
        self.assertEqual(ask(policy(1), policy(2)), [[0], [0]])

    def test_beyond_the_ranges_nothing_has_changed(self):
        assert_ranges(self, RICH, policy(1, 1, 1, 1, 1, 1), RANGES)
        assert_ranges(self, (), policy(1, 1, 1, 1, 1, 1), RANGES)

    def test_all_numbers_wrong(self):
        assert_refused(self, RICH, policy(4, -1, 2001, -1, 1000001, -1), -1)

    def test_each_number_is_its_own(self):
        self.assertEqual(last(policy(1, 100, 200), order(0, 101000), point())[1], 100)
        self.assertEqual(last(policy(1, 100, 200), order(3, 98000), point())[1], 200)
        self.assertEqual(last(policy(1, 100, 200, 7, 500000, 9), order(0, 500001), point())[1], 100)
        self.assertEqual(last(policy(1, 100, 200, 7, 500000, 9), order(0, 500000), point())[1], 0)

    def test_edges_of_the_fixed_swings(self):
        self.assertEqual(last(policy(1, 2000, 1), order(0, 1200), point()), [1, 2000, 0, 0, 1001200, 1001000])
        self.assertEqual(last(policy(1, 1, 2000), order(3, 800), point()), [2, 2000, 0, 0, 999200, 999000])
        self.assertEqual(last(policy(1, 0, 1), order(0, 1200), point()), [1, 0, 0, 0, 1001200, 1001200])
        self.assertEqual(last(policy(1, 1, 0), order(3, 800), point()), [2, 0, 0, 0, 999200, 999200])

    def test_stays_behind_a_point(self):
        told = ask(policy(1, 100, 0), order(0, 1010), point(), order(0, 1010), point())
        self.assertEqual([told[2][1], told[4][1]], [100, 100])

    def test_a_later_policy_replaces_the_whole(self):
        self.assertEqual(last(policy(1, 100, 100, 5, 1000000, 7), policy(2, 0, 0), buys(0, 10000),
                              order(0, 500000), point())[:3], [1, 101, 5000])


if __name__ == "__main__":
    unittest.main()
