"""Calls by name, their answers one list each, and the checks that many tests share."""

from fundswings.fund import answers

LEAST = -2 ** 63
MOST = 2 ** 63 - 1


def begin(value, units):
    return [0, value, units]


def buys(*row):
    return [1, len(row)] + list(row)


def sells(*row):
    return [2, len(row)] + list(row)


def policy(mode=0, fixed_in=0, fixed_out=0, factor=1000000, threshold=0, greatest=2000):
    return [3, mode, fixed_in, fixed_out, factor, threshold, greatest]


def order(kind, amount):
    return [4, kind, amount]


def withdraw(number):
    return [5, number]


def result(more):
    return [6, more]


def point():
    return [7]


def try_at(swing):
    return [8, swing]


def found():
    return [9]


def cost(side, amount):
    return [10, side, amount]


def outcome(number):
    return [11, number]


def orders():
    return [12]


def fund():
    return [13]


def flow():
    return [14]


def weights():
    return [15]


def ask(*calls):
    """The answers to the calls, one list for each."""
    told = answers([number for call in calls for number in call])
    parted = []
    place = 0
    while place < len(told):
        count = told[place]
        parted.append(told[place + 1:place + 1 + count])
        place = place + 1 + count
    assert place == len(told)
    assert len(parted) == len(calls)
    return parted


def last(*calls):
    """The answer to the last call."""
    return ask(*calls)[-1]


# A fund in which each part shows: both kinds of tiers, a found swing, orders of both sides.
RICH = (begin(700000, 900000), buys(100, 20000, 30000, 40000), sells(50, 10000, 20000, 70000),
        policy(2, 11, 13, 900000, 5, 1500), order(0, 50000), order(2, 999), order(1, 12345))

# The calls that only tell.
TELLING = (try_at(0), try_at(3), found(), cost(1, 31000), cost(2, 31000), orders(), fund(), flow(), weights(),
           outcome(1), outcome(2), outcome(3))

# Calls whose answers differ if any part of a fund does.
PROBES = TELLING + (
    result(0), order(3, 77), point(), outcome(1), outcome(4), order(3, 60000), order(2, 4321), point(),
    policy(3, 0, 0, 1000000, 0, 0), order(0, 40000), order(1, 30001), weights(), withdraw(6), orders(), point(),
    outcome(7), result(0))


def assert_refused(test, before, call, refusal):
    """The call is refused so, and what comes behind answers as if it hadn't been there."""
    told = ask(*before, call, *PROBES)
    test.assertEqual(told[len(before)], [refusal], call)
    del told[len(before)]
    test.assertEqual(told, ask(*before, *PROBES), call)


def assert_ranges(test, before, call, ranges):
    """Each number of the call is refused just beyond its range and far beyond it."""
    for place, bounds in enumerate(ranges, start=1):
        for wrong in (bounds[0] - 1, bounds[1] + 1, LEAST, MOST):
            numbers = list(call)
            numbers[place] = wrong
            assert_refused(test, before, numbers, -1)


def assert_changes_nothing(test, before, call):
    """What comes behind the call, itself among it, answers as if it hadn't been there."""
    told = ask(*before, call, call, *PROBES)
    test.assertEqual(told[len(before)], told[len(before) + 1], call)
    del told[len(before):len(before) + 2]
    test.assertEqual(told, ask(*before, *PROBES), call)
