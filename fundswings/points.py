"""A dealing point: its swing or its levies, and what would hold behind it."""

from fundswings.covering import found_swing
from fundswings.dealing import SIDE_IN, cost_of, flow_of, kept_of, levied_outcomes, outcomes_at, units_of
from fundswings.levies import lays_levies, levies_of
from fundswings.rounding import rounded_up
from fundswings.weighing import Weighing

MODE_FIXED = 1
MODE_FOUND = 2


class Point:
    """What a point comes to; the fund itself isn't changed by it."""

    def __init__(self, fund, side, swing, cost, outcomes):
        self.side = side
        self.swing = swing
        self.cost = cost
        self.outcomes = outcomes
        self.lacking = lacking_of(fund, cost, outcomes)
        self.value = fund.value + flow_of(outcomes) - cost
        self.units = fund.units + units_of(outcomes)


def point_of(fund):
    """The point that the fund's orders come to now."""
    weighing = Weighing(fund)
    side = weighing.side
    if lays_levies(fund, weighing):
        cost = cost_of(fund, side, weighing.plain)
        return Point(fund, side, 0, cost, levied_outcomes(fund, levies_of(fund, weighing)))
    swing = policy_swing(fund, side) if weighing.enough else 0
    outcomes = outcomes_at(fund, side, swing)
    return Point(fund, side, swing, cost_of(fund, side, outcomes), outcomes)


def policy_swing(fund, side):
    """The swing by the policy where the side weighs enough."""
    policy = fund.policy
    if policy.mode == MODE_FIXED:
        return policy.fixed_in if side == SIDE_IN else policy.fixed_out
    if policy.mode == MODE_FOUND:
        return found_swing(fund, side)
    return 0


def lacking_of(fund, cost, outcomes):
    """The coins that those who stay lose."""
    return rounded_up(max(0, fund.units * cost - kept_of(fund, outcomes)), fund.units)
