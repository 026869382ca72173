"""The eight calls that only tell, together."""

import unittest

from fundswings.calls import answer_of
from fundswings.state import Fund
from tests.helper import (LEAST, MOST, RICH, ask, begin, buys, cost, found, flow, fund, last, order, orders, outcome,
                          point, policy, sells, try_at, weights, withdraw)

EIGHT = (try_at(5), found(), cost(1, 500), outcome(1), orders(), fund(), flow(), weights())
WRONG = (try_at(-1), try_at(2001), cost(0, 5), cost(3, 5), cost(1, -1), cost(2, 10 ** 12 + 1), outcome(0),
         outcome(1000001), outcome(999), try_at(LEAST), try_at(MOST), cost(LEAST, 5), cost(1, MOST), outcome(LEAST),
         outcome(MOST))


def written_out(value):
    """All that an object holds, so that two times may be told apart."""
    if isinstance(value, list):
        return [written_out(each) for each in value]
    if isinstance(value, (int, str)):
        return value
    return {name: written_out(each) for name, each in vars(value).items()}


def do(held, call):
    return answer_of(held, call[0], call[2:] if call[0] in (1, 2) else call[1:])


class NewTest(unittest.TestCase):
    def test_each_as_the_first_call(self):
        self.assertEqual([ask(call)[0] for call in EIGHT],
                         [[0, 1, 0, 0, 0], [0, 0, 0, 1], [0], [-4], [0], [1000000, 1000000], [0, 0, 0], [0]])

    def test_one_behind_another(self):
        self.assertEqual(ask(*EIGHT), [ask(call)[0] for call in EIGHT])

    def test_no_orders_any_more(self):
        self.assertEqual(ask(buys(0, 10000), order(0, 500), withdraw(1), *EIGHT)[3:],
                         [[0, 1, 0, 0, 0], [0, 0, 0, 1], [5], [-4], [0], [1000000, 1000000], [0, 0, 0], [0]])
        self.assertEqual(ask(buys(0, 10000), order(0, 500), point(), *EIGHT)[3:],
                         [[0, 1, 0, 0, 0], [0, 0, 0, 1], [5], [0, 500, 500], [0], [1000495, 1000500], [0, 0, 0], [0]])

    def test_behind_begin_as_new(self):
        for mode in (0, 1, 2, 3):
            before = RICH + (policy(mode, 5, 5, 7, 9, 11), point(), order(0, 5), begin(1000000, 1000000))
            self.assertEqual(ask(*before, *EIGHT)[len(before):], ask(*EIGHT))


class ChangeNothingTest(unittest.TestCase):
    def befores(self):
        yield ()
        yield RICH + (point(),)
        for mode in (0, 1, 2, 3):
            yield RICH + (policy(mode, 5, 6, 999999, 3, 700),)
            yield RICH + (policy(mode, 5, 6), point(), order(3, 9000), order(2, 700), order(1, 5))

    def test_all_that_the_fund_holds(self):
        for before in self.befores():
            held = Fund(1000000, 1000000)
            for call in before:
                do(held, call)
            full = written_out(held)
            for call in EIGHT + WRONG:
                do(held, call)
                self.assertEqual(written_out(held), full, call)

    def test_what_is_answered_is_not_what_the_fund_holds(self):
        held = Fund(1000000, 1000000)
        for call in RICH + (point(), order(0, 5)):
            do(held, call)
        full = written_out(held)
        for call in EIGHT:
            do(held, call).append(7)
            self.assertEqual(written_out(held), full, call)

    def test_a_line_with_them_all_between(self):
        line = RICH + (sells(0, 30000), point(), order(3, 9000), policy(3), order(2, 700), point(), order(1, 5),
                       point(), order(2, 10 ** 12), point(), withdraw(7), point(), begin(9, 9), order(0, 1), point())
        told = ask(*[call for each in line for call in (*EIGHT, *WRONG, each)])
        self.assertEqual(told[len(EIGHT + WRONG)::len(EIGHT + WRONG) + 1], ask(*line))

    def test_refusals(self):
        for before in self.befores():
            told = ask(*before, *WRONG)[len(before):]
            self.assertEqual(told, [[-4] if call == outcome(999) else [-1] for call in WRONG])


class TogetherTest(unittest.TestCase):
    """What one of them tells, another tells too."""

    def test_try_at_zero_and_flow(self):
        for mode in (0, 1, 2, 3):
            told = ask(*RICH, policy(mode, 5, 6), try_at(0), flow(), fund())
            tried, plain, held = told[-3:]
            self.assertEqual(tried[2:4], plain[1:])
            self.assertEqual(tried[4], held[1] * plain[1] - held[0] * plain[2])

    def test_try_at_and_cost(self):
        for swing in (0, 1, 500, 2000):
            tried = last(*RICH, try_at(swing))
            self.assertEqual(last(*RICH, cost(1, tried[2])), [tried[0]])

    def test_weights_and_cost(self):
        told = ask(*RICH, policy(3), weights(), flow())
        self.assertEqual([sum(told[-2][2::2])], last(*RICH, cost(1, told[-1][1])))

    def test_found_and_point(self):
        told = ask(*RICH, found(), point())
        self.assertEqual(told[-2][0::2], told[-1][:2])


if __name__ == "__main__":
    unittest.main()
