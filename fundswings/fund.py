"""The interface: the calls of one line, answered one behind another."""

from fundswings.calls import answer_of
from fundswings.state import Fund

FIRST_VALUE = 1000000
FIRST_UNITS = 1000000

# The calls that have a row have no other numbers.
CALLS_WITH_ROW = (1, 2)
NUMBERS_OF_CALL = {0: 2, 3: 6, 4: 2, 5: 1, 6: 1, 7: 0, 8: 1, 9: 0, 10: 2, 11: 1, 12: 0, 13: 0, 14: 0, 15: 0}


def answers(calls):
    """The answers to the calls, each with how many numbers it has before it."""
    fund = Fund(FIRST_VALUE, FIRST_UNITS)
    told = []
    place = 0
    while place < len(calls):
        call = calls[place]
        start = numbers_start(call, place)
        end = start + numbers_count(calls, place)
        answer = answer_of(fund, call, calls[start:end])
        told.append(len(answer))
        told.extend(answer)
        place = end
    return told


def numbers_start(call, place):
    """Where the numbers of the call at this place begin."""
    return place + 2 if call in CALLS_WITH_ROW else place + 1


def numbers_count(calls, place):
    """How many numbers the call at this place has, of its row if it has one."""
    if calls[place] in CALLS_WITH_ROW:
        return calls[place + 1]
    return NUMBERS_OF_CALL[calls[place]]
