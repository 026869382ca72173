"""Levies: how the orders weigh, and the cost laid on them by their weights."""

from fundswings.dealing import MONEY_IN, SIDE_IN, SIDE_OUT, UNITS_IN, cost_of

MODE_LEVIES = 3


def lays_levies(fund, weighing):
    """Whether a point now would lay levies."""
    return fund.policy.mode == MODE_LEVIES and weighing.enough


def levies_of(fund, weighing):
    """The levy that each order, in order, would have at a point now."""
    if not lays_levies(fund, weighing):
        return [0 for order in fund.orders]
    # A side that weighs enough has money, so its weights aren't all 0.
    return shared_out(cost_of(fund, weighing.side, weighing.plain), weights_of(fund, weighing))


def weights_of(fund, weighing):
    """The weight of each order, in order: its money done plain if it's of the side that weighs more, else 0."""
    weights = []
    for order, outcome in zip(fund.orders, weighing.plain):
        weights.append(abs(outcome.money) if side_of_order(order) == weighing.side else 0)
    return weights


def side_of_order(order):
    """The side that an order is of."""
    return SIDE_IN if order.kind in (MONEY_IN, UNITS_IN) else SIDE_OUT


def shared_out(coins, weights):
    """Coins shared by weights that aren't all 0, to the last coin."""
    whole = sum(weights)
    shares = [coins * weight // whole for weight in weights]
    remainders = [coins * weight % whole for weight in weights]
    left = coins - sum(shares)
    ranked = sorted(range(len(weights)), key=lambda place: (-remainders[place], place))
    for place in ranked[:left]:
        shares[place] = shares[place] + 1
    return shares
