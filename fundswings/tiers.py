"""Tiers: how they stand in a row, and what trading an amount costs by them."""

from fundswings.rounding import rounded_up

MOST_TIERS = 6
GREATEST_FROM = 1000000000000
GREATEST_RATE = 1000000
RATE_WHOLE = 1000000


class Tier:
    """From so many coins on, trading costs this rate in millionths."""

    def __init__(self, start, rate):
        self.start = start
        self.rate = rate


def tiers_of(row):
    """The tiers that a row tells, two numbers each; None if the row isn't of that form."""
    if len(row) % 2 != 0 or len(row) > 2 * MOST_TIERS:
        return None
    tiers = [Tier(row[place], row[place + 1]) for place in range(0, len(row), 2)]
    for place, tier in enumerate(tiers):
        if not tier_within(tier):
            return None
        if place > 0 and not follows(tiers[place - 1], tier):
            return None
    return tiers


def tier_within(tier):
    """Whether both numbers of a tier are within their ranges."""
    return 0 <= tier.start <= GREATEST_FROM and 0 <= tier.rate <= GREATEST_RATE


def follows(before, tier):
    """Whether a tier may stand right behind another."""
    return tier.start > before.start and tier.rate >= before.rate


def trading_cost(tiers, amount):
    """What trading an amount of coins costs by these tiers."""
    total = 0
    for place, tier in enumerate(tiers):
        end = amount
        if place + 1 < len(tiers):
            end = min(amount, tiers[place + 1].start)
        total = total + max(0, end - tier.start) * tier.rate
    # Rounded once over all tiers: rounding each would cost up to a coin a tier too much.
    return rounded_up(total, RATE_WHOLE)
