"""The orders done plain, and the side that weighs more by them."""

from fundswings.dealing import MILLION, NEITHER, SIDE_IN, SIDE_OUT, flow_of, outcomes_at


class Weighing:
    """How the fund's orders weigh now: all of them done plain, their flow, and what follows from it."""

    def __init__(self, fund):
        self.plain = outcomes_at(fund, NEITHER, 0)
        self.flow = flow_of(self.plain)
        self.side = side_of(self.flow)
        self.enough = weighs_enough(fund, self.flow)


def side_of(plain_flow):
    """The side that weighs more, by the flow of all orders done plain."""
    if plain_flow > 0:
        return SIDE_IN
    if plain_flow < 0:
        return SIDE_OUT
    return NEITHER


def weighs_enough(fund, plain_flow):
    """Whether the side that weighs more is over the threshold."""
    return abs(plain_flow) * MILLION > fund.policy.threshold * fund.value
