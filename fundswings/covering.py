"""Which swings cover what trading costs, and the least of them."""

from fundswings.dealing import MILLION, cost_of, kept_of, outcomes_at


def covers(fund, side, swing):
    """Whether all orders at this swing keep the policy's share of their cost."""
    outcomes = outcomes_at(fund, side, swing)
    asked = fund.policy.factor * fund.units * cost_of(fund, side, outcomes)
    return asked <= MILLION * kept_of(fund, outcomes)


def found_swing(fund, side):
    """The least swing below the greatest that covers, else the greatest.

    The swings may be halved, as above one that covers all cover. On the side out a greater swing
    keeps no less and costs no more. On the side in it keeps at least what the flow grows by, and
    costs at most that more, as no rate and no factor is above a whole.
    """
    low = 0
    high = fund.policy.greatest
    while low < high:
        middle = (low + high) // 2
        if covers(fund, side, middle):
            high = middle
        else:
            low = middle + 1
    return low
