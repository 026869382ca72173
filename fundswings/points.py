"""A dealing point: its swing or its levies, and what would hold behind it."""

from fundswings.covering import found_swing
from fundswings.dealing import MONEY_IN, SIDE_IN, SIDE_OUT, UNITS_IN
from fundswings.dealing import cost_of, flow_of, kept_of, side_of, units_of, weighs_enough
from fundswings.dealing import levied_outcomes, outcomes_at, plain_outcomes
from fundswings.rounding import rounded_up

MODE_FIXED = 1
MODE_FOUND = 2
MODE_LEVIES = 3


class Point:
    """What a point comes to; the fund itself isn't changed by it."""

    def __init__(self, fund, side, swing, cost, outcomes):
        self.side = side
        self.swing = swing
        self.cost = cost
        self.outcomes = outcomes
        self.lacking = lacking_of(fund, cost, outcomes)
        self.value = fund.value + flow_of(outcomes) - cost
        self.units = fund.units + units_of(outcomes)


def point_of(fund):
    """The point that the fund's orders come to now."""
    plain = plain_outcomes(fund)
    plain_flow = flow_of(plain)
    side = side_of(plain_flow)
    enough = weighs_enough(fund, plain_flow)
    if enough and fund.policy.mode == MODE_LEVIES:
        cost = cost_of(fund, side, plain)
        levies = shared_out(cost, weights_of(fund, side, plain))
        return Point(fund, side, 0, cost, levied_outcomes(fund, levies))
    swing = policy_swing(fund, side) if enough else 0
    outcomes = outcomes_at(fund, side, swing)
    return Point(fund, side, swing, cost_of(fund, side, outcomes), outcomes)


def policy_swing(fund, side):
    """The swing by the policy where the side weighs enough."""
    policy = fund.policy
    if policy.mode == MODE_FIXED:
        return policy.fixed_in if side == SIDE_IN else policy.fixed_out
    if policy.mode == MODE_FOUND:
        return found_swing(fund, side)
    return 0


def weights_of(fund, side, plain):
    """The weight of each order, in order: its money done plain if it's of that side, else 0."""
    return [abs(outcome.money) if side_of_order(order) == side else 0 for order, outcome in zip(fund.orders, plain)]


def side_of_order(order):
    """The side that an order is of."""
    return SIDE_IN if order.kind in (MONEY_IN, UNITS_IN) else SIDE_OUT


def shared_out(coins, weights):
    """Coins shared by weights that aren't all 0, to the last coin."""
    whole = sum(weights)
    shares = [coins * weight // whole for weight in weights]
    remainders = [coins * weight % whole for weight in weights]
    left = coins - sum(shares)
    ranked = sorted(range(len(weights)), key=lambda place: (-remainders[place], place))
    for place in ranked[:left]:
        shares[place] = shares[place] + 1
    return shares


def lacking_of(fund, cost, outcomes):
    """The coins that those who stay lose."""
    return rounded_up(max(0, fund.units * cost - kept_of(fund, outcomes)), fund.units)
