"""The one rounding that Python has no sign for."""


def rounded_up(number, divisor):
    """The least whole number that isn't less than number over divisor; divisor is above 0."""
    # The sign is turned twice because // rounds down, below 0 too.
    return -(-number // divisor)
