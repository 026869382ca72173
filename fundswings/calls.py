"""The calls: each takes the fund and its numbers, and answers a list of numbers.

A refusal is a list of its one number; whatever is refused is refused ahead of any change.
"""

from fundswings.covering import covers, found_swing
from fundswings.dealing import SIDE_IN, cost_of, flow_of, kept_of, outcomes_at, units_of
from fundswings.levies import levies_of, weights_of
from fundswings.points import point_of
from fundswings.state import Order, Policy
from fundswings.tiers import tiers_of, trading_cost
from fundswings.weighing import Weighing

NOT_WITHIN = -1
NOT_THE_FORM = -2
NOT_THERE = -4
NO_ORDERS = -6
TOO_LITTLE = -7
TOO_MUCH = -8

MOST_ORDERS = 40
GREATEST_VALUE = 1000000000000
GREATEST_UNITS = 1000000000000000000

BEGIN_RANGES = ((1, 1000000000000), (1, 1000000000000000000))
POLICY_RANGES = ((0, 3), (0, 2000), (0, 2000), (0, 1000000), (0, 1000000), (0, 2000))
ORDER_RANGES = ((0, 3), (1, 1000000000000))
WITHDRAW_RANGES = ((1, 1000000),)
RESULT_RANGES = ((-1000000000000, 1000000000000),)
TRY_RANGES = ((0, 2000),)
COST_RANGES = ((1, 2), (0, 1000000000000))
OUTCOME_RANGES = ((1, 1000000),)


def all_within(numbers, ranges):
    """Whether each number is within its range, both ends among it."""
    for number, bounds in zip(numbers, ranges):
        if number < bounds[0] or number > bounds[1]:
            return False
    return True


def one_if(truth):
    """1 if it's true, else 0: an answer holds whole numbers alone."""
    return 1 if truth else 0


def begin(fund, numbers):
    """Make the fund new, with a value and units."""
    if not all_within(numbers, BEGIN_RANGES):
        return [NOT_WITHIN]
    fund.renew(numbers[0], numbers[1])
    return [0]


def buys(fund, row):
    """Set the tiers for buying."""
    tiers = tiers_of(row)
    if tiers is None:
        return [NOT_THE_FORM]
    fund.buy_tiers = tiers
    return [len(tiers)]


def sells(fund, row):
    """Set the tiers for selling."""
    tiers = tiers_of(row)
    if tiers is None:
        return [NOT_THE_FORM]
    fund.sell_tiers = tiers
    return [len(tiers)]


def policy(fund, numbers):
    """Set the policy."""
    if not all_within(numbers, POLICY_RANGES):
        return [NOT_WITHIN]
    fund.policy = Policy(numbers[0], numbers[1], numbers[2], numbers[3], numbers[4], numbers[5])
    return [0]


def order(fund, numbers):
    """Put a new order behind the others."""
    if not all_within(numbers, ORDER_RANGES):
        return [NOT_WITHIN]
    if len(fund.orders) >= MOST_ORDERS:
        return [TOO_MUCH]
    fund.last_number = fund.last_number + 1
    fund.orders.append(Order(fund.last_number, numbers[0], numbers[1]))
    return [fund.last_number]


def withdraw(fund, numbers):
    """Take an order away."""
    if not all_within(numbers, WITHDRAW_RANGES):
        return [NOT_WITHIN]
    others = [each for each in fund.orders if each.number != numbers[0]]
    if len(others) == len(fund.orders):
        return [NOT_THERE]
    fund.orders = others
    return [0]


def result(fund, numbers):
    """Add what the fund has won or lost to its value."""
    if not all_within(numbers, RESULT_RANGES):
        return [NOT_WITHIN]
    value = fund.value + numbers[0]
    if value < 1:
        return [TOO_LITTLE]
    if value > GREATEST_VALUE:
        return [TOO_MUCH]
    fund.value = value
    return [value]


def point(fund, numbers):
    """Do all orders at a dealing point."""
    if len(fund.orders) == 0:
        return [NO_ORDERS]
    dealt = point_of(fund)
    if dealt.value < 1 or dealt.units < 1:
        return [TOO_LITTLE]
    if dealt.value > GREATEST_VALUE or dealt.units > GREATEST_UNITS:
        return [TOO_MUCH]
    fund.value = dealt.value
    fund.units = dealt.units
    fund.orders = []
    fund.outcomes = dealt.outcomes
    return [dealt.side, dealt.swing, dealt.cost, dealt.lacking, dealt.value, dealt.units]


def try_at(fund, numbers):
    """Tell what all orders at a swing come to."""
    if not all_within(numbers, TRY_RANGES):
        return [NOT_WITHIN]
    swing = numbers[0]
    side = Weighing(fund).side
    outcomes = outcomes_at(fund, side, swing)
    covering = one_if(covers(fund, side, swing))
    return [cost_of(fund, side, outcomes), covering, flow_of(outcomes), units_of(outcomes), kept_of(fund, outcomes)]


def found(fund, numbers):
    """Tell the found swing, whatever the mode."""
    weighing = Weighing(fund)
    swing = found_swing(fund, weighing.side)
    return [weighing.side, one_if(weighing.enough), swing, one_if(covers(fund, weighing.side, swing))]


def cost(fund, numbers):
    """Tell what trading an amount costs on a side."""
    if not all_within(numbers, COST_RANGES):
        return [NOT_WITHIN]
    tiers = fund.buy_tiers if numbers[0] == SIDE_IN else fund.sell_tiers
    return [trading_cost(tiers, numbers[1])]


def outcome(fund, numbers):
    """Tell what an order of the last point came to."""
    if not all_within(numbers, OUTCOME_RANGES):
        return [NOT_WITHIN]
    for each in fund.outcomes:
        if each.number == numbers[0]:
            return [each.levy, each.money, each.units]
    return [NOT_THERE]


def orders(fund, numbers):
    """Tell the orders that wait."""
    told = [len(fund.orders)]
    for each in fund.orders:
        told.extend([each.number, each.kind, each.amount])
    return told


def fund_now(fund, numbers):
    """Tell the value and the units."""
    return [fund.value, fund.units]


def flow(fund, numbers):
    """Tell the side that weighs more, and what all orders done plain come to."""
    weighing = Weighing(fund)
    return [weighing.side, weighing.flow, units_of(weighing.plain)]


def weights(fund, numbers):
    """Tell the weight of each order, and the levy that it would have at a point now."""
    weighing = Weighing(fund)
    told = [len(fund.orders)]
    for weight, levy in zip(weights_of(fund, weighing), levies_of(fund, weighing)):
        told.extend([weight, levy])
    return told


# By the number of the call.
CALLS = (begin, buys, sells, policy, order, withdraw, result, point, try_at, found, cost, outcome, orders, fund_now,
         flow, weights)


def answer_of(fund, call, numbers):
    """What the call of this number answers."""
    return CALLS[call](fund, numbers)
