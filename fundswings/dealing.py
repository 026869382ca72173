"""Orders done at swings and levies, and what their outcomes come to."""

from fundswings.rounding import rounded_up
from fundswings.state import Outcome
from fundswings.tiers import trading_cost

MONEY_IN = 0
UNITS_IN = 1
UNITS_OUT = 2

NEITHER = 0
SIDE_IN = 1
SIDE_OUT = 2

SWING_WHOLE = 10000
MILLION = 1000000


class Prices:
    """The prices in and out, each over the same number, so that no price is rounded."""

    def __init__(self, fund, swing_in, swing_out):
        self.going_in = fund.value * (SWING_WHOLE + swing_in)
        self.going_out = fund.value * (SWING_WHOLE - swing_out)
        self.over = fund.units * SWING_WHOLE


def done(order, prices, levy):
    """The outcome of one order at these prices, with this levy."""
    amount = order.amount
    if order.kind == MONEY_IN:
        money = amount
        units = max(0, amount - levy) * prices.over // prices.going_in
    elif order.kind == UNITS_IN:
        money = rounded_up(amount * prices.going_in, prices.over) + levy
        units = amount
    elif order.kind == UNITS_OUT:
        money = -max(0, amount * prices.going_out // prices.over - levy)
        units = -amount
    else:
        money = -amount
        units = -rounded_up((amount + levy) * prices.over, prices.going_out)
    return Outcome(order.number, levy, money, units)


def outcomes_at(fund, side, swing):
    """The outcomes of all orders at a swing of that side's price, without levies."""
    prices = Prices(fund, swing if side == SIDE_IN else 0, swing if side == SIDE_OUT else 0)
    return [done(order, prices, 0) for order in fund.orders]


def levied_outcomes(fund, levies):
    """The outcomes of all orders at the plain price, each with its levy."""
    prices = Prices(fund, 0, 0)
    return [done(order, prices, levy) for order, levy in zip(fund.orders, levies)]


def flow_of(outcomes):
    """The money of the outcomes, added up."""
    return sum([outcome.money for outcome in outcomes])


def units_of(outcomes):
    """The units of the outcomes, added up."""
    return sum([outcome.units for outcome in outcomes])


def cost_of(fund, side, outcomes):
    """What trading the flow of the outcomes costs on that side."""
    if side == SIDE_IN:
        return trading_cost(fund.buy_tiers, max(0, flow_of(outcomes)))
    if side == SIDE_OUT:
        return trading_cost(fund.sell_tiers, max(0, -flow_of(outcomes)))
    return 0


def kept_of(fund, outcomes):
    """What's kept of the outcomes: in coins times the fund's units, so that it stays whole."""
    return fund.units * flow_of(outcomes) - fund.value * units_of(outcomes)
