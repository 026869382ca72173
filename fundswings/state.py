"""What a fund keeps from one call to the next."""


class Policy:
    """How a point swings the price or lays levies."""

    def __init__(self, mode, fixed_in, fixed_out, factor, threshold, greatest):
        self.mode = mode
        self.fixed_in = fixed_in
        self.fixed_out = fixed_out
        self.factor = factor
        self.threshold = threshold
        self.greatest = greatest


class Order:
    """An order that waits for the next point; its amount is coins or units by its kind."""

    def __init__(self, number, kind, amount):
        self.number = number
        self.kind = kind
        self.amount = amount


class Outcome:
    """An order done: money above 0 goes to the fund, units above 0 are made."""

    def __init__(self, number, levy, money, units):
        self.number = number
        self.levy = levy
        self.money = money
        self.units = units


class Fund:
    """The object that the calls of one line work on."""

    def __init__(self, value, units):
        self.renew(value, units)

    def renew(self, value, units):
        """Make all of it new, as begin does."""
        self.value = value
        self.units = units
        self.buy_tiers = []
        self.sell_tiers = []
        self.policy = Policy(0, 0, 0, 1000000, 0, 2000)
        self.orders = []
        # Kept apart from the orders, so that no number comes twice when orders are gone.
        self.last_number = 0
        self.outcomes = []
