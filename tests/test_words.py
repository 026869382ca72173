"""The program beside the second one."""

import random
import unittest

from fundswings.fund import answers
from tests.helper import TELLING
from tests.maker import Maker
from tests.words import MILLION, by_words


def flat(calls):
    return [number for call in calls for number in call]


class Beside(unittest.TestCase):
    def compare(self, calls):
        """Both answer the same; what they answer, one list for each call."""
        told = by_words(calls)
        self.assertEqual(answers(flat(calls)), flat([len(answer)] + answer for answer in told), calls)
        return told


class WordsTest(Beside):
    def test_many_lines(self):
        for seed in range(2500):
            self.compare(Maker(seed, 40).line())

    def test_wide_swings(self):
        for seed in range(120):
            self.compare(Maker(seed, 2000).line())


class LongLinesTest(Beside):
    """All sixteen calls together, 400 of them."""

    def test_long_lines(self):
        met = set()
        lengths = []
        for seed in range(30):
            calls = Maker(seed, 20).long_line()
            self.assertEqual(len(calls), 400)
            lengths.append(len(flat(calls)))
            for call, answer in zip(calls, self.compare(calls)):
                met.add((call[0], answer[0] if answer[0] < 0 else 0))
                if call[0] == 12:
                    met.add(("orders", answer[0]))
        self.assertTrue(all(15500 < length <= 16000 for length in lengths), lengths)
        self.assert_met(met)

    def assert_met(self, met):
        """The lines hold each call, answered and refused in each of its ways but those at a fund's end."""
        self.assertLessEqual({(call, 0) for call in range(16)}, met)
        refused = {(0, -1), (1, -2), (2, -2), (3, -1), (4, -1), (4, -8), (5, -1), (5, -4), (6, -1), (7, -6), (8, -1),
                   (10, -1), (11, -1), (11, -4)}
        self.assertLessEqual(refused, met)
        self.assertIn(("orders", 40), met)
        self.assertIn(("orders", 0), met)

    def test_all_that_tells_behind_each_point(self):
        for seed in range(60):
            calls = []
            for call in Maker(seed, 30).line():
                calls.extend([*TELLING, call, *TELLING] if call == [7] else [call])
            self.compare(calls)


class SearchTest(Beside):
    """Found swings of orders that weigh much against their fund, each by all lesser swings too."""

    def test_least_swing(self):
        for seed in range(400):
            maker = random.Random(seed)
            value = maker.randint(1, 3000)
            units = maker.randint(1, 3000)
            start = maker.randint(0, value)
            row = [start, maker.randint(0, 100000), start + maker.randint(1, value), maker.randint(100000, MILLION)]
            kinds = maker.choice(((0,), (1,), (0, 1), (1, 1, 2), (2,), (3,), (2, 3), (2, 2, 0)))
            factor = maker.choice((MILLION, 700001))
            calls = [[0, value, units], [1, 4] + row, [2, 4] + row, [3, 2, 0, 0, factor, 0, 300]]
            calls += [[4, kind, maker.randint(1, units // 3 + 1)] for kind in kinds] + [[9], [7]]
            self.compare(calls)


if __name__ == "__main__":
    unittest.main()
