"""A second program, written word by word with fractions and no thought of speed."""

import math
from fractions import Fraction

MILLION = 1000000


class Refused(Exception):
    pass


def refuse(number, unless):
    if not unless:
        raise Refused(number)


class Words:
    def __init__(self):
        self.begin(1000000, 1000000)

    def begin(self, value, units):
        refuse(-1, 1 <= value <= 10 ** 12 and 1 <= units <= 10 ** 18)
        self.value, self.units = value, units
        self.tiers = {1: [], 2: []}
        self.rules = (0, 0, 0, MILLION, 0, 2000)
        self.waiting = []
        self.given = 0
        self.dealt = {}
        return [0]

    def set_tiers(self, side, row):
        refuse(-2, len(row) % 2 == 0 and len(row) <= 12)
        tiers = list(zip(row[0::2], row[1::2]))
        refuse(-2, all(0 <= tier[0] <= 10 ** 12 and 0 <= tier[1] <= MILLION for tier in tiers))
        refuse(-2, all(one[0] < two[0] and one[1] <= two[1] for one, two in zip(tiers, tiers[1:])))
        self.tiers[side] = tiers
        return [len(tiers)]

    def policy(self, *rules):
        refuse(-1, all(0 <= rule <= most for rule, most in zip(rules, (3, 2000, 2000, MILLION, MILLION, 2000))))
        self.rules = rules
        return [0]

    def order(self, kind, amount):
        refuse(-1, kind in (0, 1, 2, 3) and 1 <= amount <= 10 ** 12)
        refuse(-8, len(self.waiting) < 40)
        self.given += 1
        self.waiting.append((self.given, kind, amount))
        return [self.given]

    def withdraw(self, number):
        refuse(-1, 1 <= number <= MILLION)
        refuse(-4, number in [order[0] for order in self.waiting])
        self.waiting = [order for order in self.waiting if order[0] != number]
        return [0]

    def result(self, more):
        refuse(-1, abs(more) <= 10 ** 12)
        refuse(-7, self.value + more >= 1)
        refuse(-8, self.value + more <= 10 ** 12)
        self.value += more
        return [self.value]

    def trading(self, side, amount):
        total = Fraction(0)
        starts = [tier[0] for tier in self.tiers[side]] + [None]
        for (start, rate), end in zip(self.tiers[side], starts[1:]):
            top = amount if end is None else min(end, amount)
            if top > start:
                total += Fraction((top - start) * rate, MILLION)
        return math.ceil(total)

    def done(self, order, swing_in, swing_out, levy):
        price = Fraction(self.value, self.units)
        price_in = price * Fraction(10000 + swing_in, 10000)
        price_out = price * Fraction(10000 - swing_out, 10000)
        kind, amount = order[1:]
        if kind == 0:
            return amount, math.floor(max(amount - levy, 0) / price_in)
        if kind == 1:
            return math.ceil(amount * price_in) + levy, amount
        if kind == 2:
            return -max(math.floor(amount * price_out) - levy, 0), -amount
        return -amount, -math.ceil((amount + levy) / price_out)

    def plain(self):
        return [self.done(order, 0, 0, 0) for order in self.waiting]

    def side(self):
        flow = sum(money for money, units in self.plain())
        return 1 if flow > 0 else 2 if flow < 0 else 0

    def enough(self):
        flow = sum(money for money, units in self.plain())
        return abs(flow) > Fraction(self.rules[4], MILLION) * self.value

    def at(self, side, swing):
        return [self.done(order, swing if side == 1 else 0, swing if side == 2 else 0, 0) for order in self.waiting]

    def cost(self, side, done):
        flow = sum(money for money, units in done)
        if side == 0:
            return 0
        return self.trading(side, max(0, flow if side == 1 else -flow))

    def kept(self, done):
        return self.units * sum(money for money, units in done) - self.value * sum(units for money, units in done)

    def covers(self, side, swing):
        done = self.at(side, swing)
        return self.rules[3] * self.units * self.cost(side, done) <= MILLION * self.kept(done)

    def least_swing(self, side):
        for swing in range(self.rules[5]):
            if self.covers(side, swing):
                return swing
        return self.rules[5]

    def weigh(self):
        kinds = {0: (), 1: (0, 1), 2: (2, 3)}[self.side()]
        return [abs(done[0]) if order[1] in kinds else 0 for order, done in zip(self.waiting, self.plain())]

    def levies(self):
        if self.rules[0] != 3 or not self.enough():
            return [0] * len(self.waiting)
        whole = self.cost(self.side(), self.plain())
        exact = [Fraction(whole * weight, sum(self.weigh())) for weight in self.weigh()]
        levies = [math.floor(share) for share in exact]
        while sum(levies) < whole:
            open_parts = [share - levy for share, levy in zip(exact, levies)]
            levies[open_parts.index(max(open_parts))] += 1
        return levies

    def point(self):
        refuse(-6, self.waiting)
        mode, fixed_in, fixed_out, factor, threshold, greatest = self.rules
        side = self.side()
        swing = 0
        if self.enough() and mode == 1:
            swing = (0, fixed_in, fixed_out)[side]
        if self.enough() and mode == 2:
            swing = self.least_swing(side)
        done = self.at(side, swing)
        cost = self.cost(side, done)
        levies = self.levies()
        if self.enough() and mode == 3:
            done = [self.done(order, 0, 0, levy) for order, levy in zip(self.waiting, levies)]
        lacking = math.ceil(max(Fraction(0), cost - Fraction(self.kept(done), self.units)))
        value = self.value + sum(money for money, units in done) - cost
        units = self.units + sum(units for money, units in done)
        refuse(-7, value >= 1 and units >= 1)
        refuse(-8, value <= 10 ** 12 and units <= 10 ** 18)
        self.dealt = {order[0]: [levy, *each] for order, levy, each in zip(self.waiting, levies, done)}
        self.value, self.units, self.waiting = value, units, []
        return [side, swing, cost, lacking, value, units]

    def tell_try(self, swing):
        refuse(-1, 0 <= swing <= 2000)
        side = self.side()
        done = self.at(side, swing)
        return [self.cost(side, done), 1 if self.covers(side, swing) else 0, sum(money for money, units in done),
                sum(units for money, units in done), self.kept(done)]

    def tell_found(self):
        side = self.side()
        swing = self.least_swing(side)
        return [side, 1 if self.enough() else 0, swing, 1 if self.covers(side, swing) else 0]

    def tell_cost(self, side, amount):
        refuse(-1, side in (1, 2) and 0 <= amount <= 10 ** 12)
        return [self.trading(side, amount)]

    def tell_outcome(self, number):
        refuse(-1, 1 <= number <= MILLION)
        refuse(-4, number in self.dealt)
        return self.dealt[number]

    def tell_orders(self):
        return [len(self.waiting)] + [number for order in self.waiting for number in order]

    def tell_fund(self):
        return [self.value, self.units]

    def tell_flow(self):
        return [self.side(), sum(money for money, units in self.plain()), sum(units for money, units in self.plain())]

    def tell_weights(self):
        pairs = zip(self.weigh(), self.levies())
        return [len(self.waiting)] + [number for pair in pairs for number in pair]

    def call(self, call):
        if call[0] in (1, 2):
            return self.set_tiers(call[0], call[2:])
        names = {0: self.begin, 3: self.policy, 4: self.order, 5: self.withdraw, 6: self.result, 7: self.point,
                 8: self.tell_try, 9: self.tell_found, 10: self.tell_cost, 11: self.tell_outcome,
                 12: self.tell_orders, 13: self.tell_fund, 14: self.tell_flow, 15: self.tell_weights}
        return names[call[0]](*call[1:])


def by_words(calls):
    """The answers to the calls, one list for each."""
    words = Words()
    told = []
    for call in calls:
        try:
            answer = words.call(call)
        except Refused as refused:
            answer = [refused.args[0]]
        told.append(answer)
    return told
