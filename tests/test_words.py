"""The program beside a second one, written word by word with fractions and no thought of speed."""

import math
import random
import unittest
from fractions import Fraction

from fundswings.fund import answers

MILLION = 1000000


class Refused(Exception):
    pass


def refuse(number, unless):
    if not unless:
        raise Refused(number)


class Words:
    def __init__(self):
        self.begin(1000000, 1000000)

    def begin(self, value, units):
        refuse(-1, 1 <= value <= 10 ** 12 and 1 <= units <= 10 ** 18)
        self.value, self.units = value, units
        self.tiers = {1: [], 2: []}
        self.rules = (0, 0, 0, MILLION, 0, 2000)
        self.waiting = []
        self.given = 0
        return [0]

    def set_tiers(self, side, row):
        refuse(-2, len(row) % 2 == 0 and len(row) <= 12)
        tiers = list(zip(row[0::2], row[1::2]))
        refuse(-2, all(0 <= tier[0] <= 10 ** 12 and 0 <= tier[1] <= MILLION for tier in tiers))
        refuse(-2, all(one[0] < two[0] and one[1] <= two[1] for one, two in zip(tiers, tiers[1:])))
        self.tiers[side] = tiers
        return [len(tiers)]

    def policy(self, *rules):
        refuse(-1, all(0 <= rule <= most for rule, most in zip(rules, (3, 2000, 2000, MILLION, MILLION, 2000))))
        self.rules = rules
        return [0]

    def order(self, kind, amount):
        refuse(-1, kind in (0, 1, 2, 3) and 1 <= amount <= 10 ** 12)
        refuse(-8, len(self.waiting) < 40)
        self.given += 1
        self.waiting.append((self.given, kind, amount))
        return [self.given]

    def withdraw(self, number):
        refuse(-1, 1 <= number <= MILLION)
        refuse(-4, number in [order[0] for order in self.waiting])
        self.waiting = [order for order in self.waiting if order[0] != number]
        return [0]

    def result(self, more):
        refuse(-1, abs(more) <= 10 ** 12)
        refuse(-7, self.value + more >= 1)
        refuse(-8, self.value + more <= 10 ** 12)
        self.value += more
        return [self.value]

    def trading(self, side, amount):
        total = Fraction(0)
        starts = [tier[0] for tier in self.tiers[side]] + [None]
        for (start, rate), end in zip(self.tiers[side], starts[1:]):
            top = amount if end is None else min(end, amount)
            if top > start:
                total += Fraction((top - start) * rate, MILLION)
        return math.ceil(total)

    def done(self, order, swing_in, swing_out, levy):
        price = Fraction(self.value, self.units)
        price_in = price * Fraction(10000 + swing_in, 10000)
        price_out = price * Fraction(10000 - swing_out, 10000)
        kind, amount = order[1:]
        if kind == 0:
            return amount, math.floor(max(amount - levy, 0) / price_in)
        if kind == 1:
            return math.ceil(amount * price_in) + levy, amount
        if kind == 2:
            return -max(math.floor(amount * price_out) - levy, 0), -amount
        return -amount, -math.ceil((amount + levy) / price_out)

    def at(self, side, swing):
        return [self.done(order, swing if side == 1 else 0, swing if side == 2 else 0, 0) for order in self.waiting]

    def cost(self, side, done):
        flow = sum(money for money, units in done)
        if side == 0:
            return 0
        return self.trading(side, max(0, flow if side == 1 else -flow))

    def kept(self, done):
        return self.units * sum(money for money, units in done) - self.value * sum(units for money, units in done)

    def covers(self, side, swing):
        done = self.at(side, swing)
        return self.rules[3] * self.units * self.cost(side, done) <= MILLION * self.kept(done)

    def found(self, side):
        for swing in range(self.rules[5]):
            if self.covers(side, swing):
                return swing
        return self.rules[5]

    def levied(self, side, plain, cost):
        kinds = (0, 1) if side == 1 else (2, 3)
        weights = [abs(done[0]) if order[1] in kinds else 0 for order, done in zip(self.waiting, plain)]
        exact = [Fraction(cost * weight, sum(weights)) for weight in weights]
        levies = [math.floor(share) for share in exact]
        while sum(levies) < cost:
            open_parts = [share - levy for share, levy in zip(exact, levies)]
            levies[open_parts.index(max(open_parts))] += 1
        return [self.done(order, 0, 0, levy) for order, levy in zip(self.waiting, levies)]

    def point(self):
        refuse(-6, self.waiting)
        mode, fixed_in, fixed_out, factor, threshold, greatest = self.rules
        plain = self.at(0, 0)
        flow = sum(money for money, units in plain)
        side = 1 if flow > 0 else 2 if flow < 0 else 0
        enough = abs(flow) > Fraction(threshold, MILLION) * self.value
        swing = 0
        if enough and mode == 1:
            swing = (0, fixed_in, fixed_out)[side]
        if enough and mode == 2:
            swing = self.found(side)
        done = self.at(side, swing)
        cost = self.cost(side, done)
        if enough and mode == 3:
            done = self.levied(side, plain, cost)
        lacking = math.ceil(max(Fraction(0), cost - Fraction(self.kept(done), self.units)))
        value = self.value + sum(money for money, units in done) - cost
        units = self.units + sum(units for money, units in done)
        refuse(-7, value >= 1 and units >= 1)
        refuse(-8, value <= 10 ** 12 and units <= 10 ** 18)
        self.value, self.units, self.waiting = value, units, []
        return [side, swing, cost, lacking, value, units]

    def call(self, call):
        if call[0] in (1, 2):
            return self.set_tiers(call[0], call[2:])
        names = {0: self.begin, 3: self.policy, 4: self.order, 5: self.withdraw, 6: self.result, 7: self.point}
        return names[call[0]](*call[1:])


def by_words(calls):
    words = Words()
    told = []
    for call in calls:
        try:
            answer = words.call(call)
        except Refused as refused:
            answer = [refused.args[0]]
        told.append(answer)
    return told


class Maker:
    """Lines of calls, the same ones each time for the same seed."""

    def __init__(self, seed, most_swing):
        self.random = random.Random(seed)
        self.most_swing = most_swing

    def size(self, most):
        """A number from 1 to most, as often small as great."""
        return self.random.randint(1, 10 ** self.random.randint(0, len(str(most)) - 1))

    def tiers(self):
        count = self.random.choice((0, 1, 1, 2, 3, 6))
        starts = sorted({self.random.choice((0, self.size(10 ** 12))) for step in range(count)})
        top = self.random.choice((10, 50000, 300000, MILLION))
        rates = sorted(self.random.randint(0, top) for step in starts)
        row = [number for tier in zip(starts, rates) for number in tier]
        if self.random.random() < 0.05:
            row.append(1)
        return row

    def policy(self):
        mode = self.random.choice((0, 1, 2, 2, 2, 3, 3))
        swings = [self.random.randint(0, self.most_swing) for step in range(3)]
        factor = self.random.choice((0, MILLION, MILLION, self.random.randint(0, MILLION)))
        threshold = self.random.choice((0, 0, self.size(MILLION)))
        return [3, mode, swings[0], swings[1], factor, threshold, swings[2]]

    def orders(self):
        size = self.random.choice((100, 10 ** 6, 10 ** 12))
        kinds = self.random.choice(((0, 1), (2, 3), (0, 1, 2, 3), (0, 1, 2, 3)))
        return [[4, self.random.choice(kinds), self.random.choice((self.size(size), 10))]
                for step in range(self.random.choice((1, 1, 2, 3, 5)))]

    def line(self):
        calls = [[0, self.size(10 ** 12), self.size(10 ** 18)]]
        for step in range(4):
            row = self.tiers()
            calls.append([self.random.choice((1, 2)), len(row)] + row)
            calls.append(self.policy())
            calls.extend(self.orders())
            if self.random.random() < 0.3:
                calls.append([5, self.random.randint(0, 12)])
            if self.random.random() < 0.3:
                calls.append([6, self.random.choice((1, -1)) * self.size(10 ** 12)])
            calls.append([7])
        return calls


class WordsTest(unittest.TestCase):
    def compare(self, seed, most_swing):
        calls = Maker(seed, most_swing).line()
        asked = [number for call in calls for number in call]
        told = [number for answer in by_words(calls) for number in [len(answer)] + answer]
        self.assertEqual(answers(asked), told, calls)

    def test_many_lines(self):
        for seed in range(2500):
            self.compare(seed, 40)

    def test_wide_swings(self):
        for seed in range(120):
            self.compare(seed, 2000)


class SearchTest(unittest.TestCase):
    """Found swings of orders that weigh much against their fund, each by all lesser swings too."""

    def test_least_swing(self):
        for seed in range(400):
            maker = random.Random(seed)
            value = maker.randint(1, 3000)
            units = maker.randint(1, 3000)
            start = maker.randint(0, value)
            row = [start, maker.randint(0, 100000), start + maker.randint(1, value), maker.randint(100000, MILLION)]
            kinds = maker.choice(((0,), (1,), (0, 1), (1, 1, 2), (2,), (3,), (2, 3), (2, 2, 0)))
            factor = maker.choice((MILLION, 700001))
            calls = [[0, value, units], [1, 4] + row, [2, 4] + row, [3, 2, 0, 0, factor, 0, 300]]
            calls += [[4, kind, maker.randint(1, units // 3 + 1)] for kind in kinds] + [[7]]
            asked = [number for call in calls for number in call]
            told = [number for answer in by_words(calls) for number in [len(answer)] + answer]
            self.assertEqual(answers(asked), told, calls)


if __name__ == "__main__":
    unittest.main()
