"""Lines of calls made at random, the same ones each time for the same seed."""

import random

from tests.helper import LEAST, MOST

MILLION = 1000000


class Maker:
    def __init__(self, seed, most_swing):
        self.random = random.Random(seed)
        self.most_swing = most_swing
        self.value, self.units = 1000000, 1000000
        self.asked = 0

    def size(self, most):
        """A number from 1 to most, as often small as great."""
        return self.random.randint(1, 10 ** self.random.randint(0, len(str(most)) - 1))

    def tiers(self):
        count = self.random.choice((0, 1, 1, 2, 3, 6))
        starts = sorted({self.random.choice((0, self.size(10 ** 12))) for step in range(count)})
        top = self.random.choice((10, 50000, 300000, MILLION))
        rates = sorted(self.random.randint(0, top) for step in starts)
        row = [number for tier in zip(starts, rates) for number in tier]
        if self.random.random() < 0.05:
            row.append(1)
        return row

    def tiers_call(self):
        row = self.tiers()
        return [self.random.choice((1, 2)), len(row)] + row

    def policy(self):
        mode = self.random.choice((0, 1, 2, 2, 2, 3, 3))
        swings = [self.random.randint(0, self.most_swing) for step in range(3)]
        factor = self.random.choice((0, MILLION, MILLION, self.random.randint(0, MILLION)))
        threshold = self.random.choice((0, 0, self.size(MILLION)))
        return [3, mode, swings[0], swings[1], factor, threshold, swings[2]]

    def orders(self):
        size = self.random.choice((100, 10 ** 6, 10 ** 12))
        kinds = self.random.choice(((0, 1), (2, 3), (0, 1, 2, 3), (0, 1, 2, 3)))
        count = self.random.choice((1, 1, 2, 3, 5))
        self.asked += count
        return [[4, self.random.choice(kinds), self.random.choice((self.size(size), 10))] for step in range(count)]

    def late_number(self, back):
        """The number of an order asked for lately, or the next one, as far as none was refused."""
        return self.random.randint(max(1, self.asked - back), self.asked + 1)

    def told(self):
        """One of the calls that only tell."""
        number = self.random.randint(8, 15)
        if number == 8:
            return [8, self.random.choice((0, 1, 2000, self.random.randint(0, 2000)))]
        if number == 10:
            return [10, self.random.choice((1, 2)), self.random.choice((0, 10 ** 12, self.size(10 ** 12)))]
        if number == 11:
            return [11, self.late_number(30)]
        return [number]

    def line(self):
        """Four points with what goes before each, and two calls that tell before and behind it."""
        calls = [[0, self.size(10 ** 12), self.size(10 ** 18)]]
        for step in range(4):
            calls.append(self.tiers_call())
            calls.append(self.policy())
            calls.extend(self.orders())
            if self.random.random() < 0.3:
                calls.append([5, self.random.randint(0, 12)])
            if self.random.random() < 0.3:
                calls.append([6, self.random.choice((1, -1)) * self.size(10 ** 12)])
            calls.extend([self.told(), self.told(), [7], self.told(), self.told()])
        return calls

    def fitting_order(self):
        """An order that a fund of this size may well deal in."""
        kind = self.random.randint(0, 3)
        most = self.value if kind in (0, 3) else self.units
        self.asked += 1
        return [4, kind, min(10 ** 12, self.random.randint(1, most // 25 + 1))]

    def spoilt(self, call):
        """The call with one of its numbers out of all ranges, if it has numbers."""
        numbers = list(call)
        if call[0] not in (1, 2) and len(call) > 1:
            numbers[self.random.randint(1, len(call) - 1)] = self.random.choice((LEAST, -1, 10 ** 18 + 1, MOST))
        return numbers

    def longest_row(self):
        return [self.random.choice((1, 2)), 400] + [self.random.randint(0, 15) for step in range(400)]

    def any_call(self):
        """Any of the sixteen; orders come often, so that there may be forty."""
        chance = self.random.random()
        if chance < 0.45:
            return self.fitting_order()
        if chance < 0.80:
            return self.told()
        if chance < 0.83:
            return [7]
        if chance < 0.88:
            return self.policy()
        if chance < 0.93:
            return self.tiers_call()
        if chance < 0.96:
            return [5, self.late_number(9)]
        if chance < 0.993:
            return [6, self.random.randint(-self.value // 50, self.value // 50)]
        self.asked = 0
        return [0, self.value, self.units]

    def long_line(self):
        """400 calls in a list of almost 16000 numbers, some of them refused."""
        self.value, self.units = self.size(10 ** 11) + 999, self.size(10 ** 17) + 999
        calls = [[0, self.value, self.units], self.policy(), [1, 2, 0, self.random.randint(1, 50000)],
                 [2, 2, 0, self.random.randint(1, 50000)]]
        rows = set(self.random.sample(range(4, 400), 37))
        for place in range(4, 400):
            if place in rows:
                calls.append(self.longest_row())
            else:
                call = self.any_call()
                calls.append(self.spoilt(call) if self.random.random() < 0.1 else call)
        return calls
