import contextlib
import io
import sys
import unittest

from fundswings.fund import answers
from tests.helper import PROBES, RICH, buys, order, point, policy, result, sells


def flat(*calls):
    return [number for call in calls for number in call]


class Untouchable(list):
    """A list that can't be changed, not for a while either."""

    def refuse(self, *given):
        raise AssertionError("the list handed in was changed")

    append = extend = insert = remove = pop = clear = sort = reverse = refuse
    __setitem__ = __delitem__ = __iadd__ = __imul__ = refuse


class InterfaceTest(unittest.TestCase):
    def test_counts_stand_before_answers(self):
        calls = [0, 1000, 1000, 1, 4, 0, 10000, 5, 20000, 2, 0, 3, 0, 0, 0, 1000000, 0, 2000,
                 4, 0, 100, 5, 1, 6, -5, 4, 2, 10, 7, 7]
        self.assertEqual(answers(calls), [1, 0, 1, 2, 1, 0, 1, 0, 1, 1, 1, 0, 1, 995, 1, 2,
                                          6, 2, 0, 0, 0, 986, 990, 1, -6])

    def test_one_call(self):
        self.assertEqual(answers([7]), [1, -6])
        self.assertEqual(answers([6, 0]), [1, 1000000])

    def test_calls_that_tell_have_their_counts_before_them(self):
        self.assertEqual(answers([8, 0, 9, 10, 1, 5, 11, 1, 12, 13, 14, 15]),
                         [5, 0, 1, 0, 0, 0, 4, 0, 0, 0, 1, 1, 0, 1, -4, 1, 0, 2, 1000000, 1000000, 3, 0, 0, 0, 1, 0])
        self.assertEqual(answers([4, 0, 50, 4, 2, 20, 8, 1, 9, 10, 2, 5, 11, 1, 12, 13, 14, 15, 7, 11, 2]),
                         [1, 1, 1, 2, 5, 0, 1, 30, 29, 1000000, 4, 1, 1, 0, 1, 1, 0, 1, -4, 7, 2, 1, 0, 50, 2, 2, 20,
                          2, 1000000, 1000000, 3, 1, 30, 30, 5, 2, 50, 0, 0, 0, 6, 1, 0, 0, 0, 1000030, 1000030,
                          3, 0, -20, -20])
        self.assertEqual(answers([8, -1, 10, 0, 0, 11, 0, 13]), [1, -1, 1, -1, 1, -1, 2, 1000000, 1000000])

    def test_forty_orders_told_again_and_again(self):
        forty = [order(0, 10 ** 12 - step) for step in range(40)]
        calls = flat([0, 10 ** 12, 10 ** 18], policy(3), buys(0, 999999), *forty, *[[12], [15], [9], [8, 2000]] * 89)
        told = answers(calls)
        self.assertEqual(len(told), 2 * 43 + 89 * (122 + 82 + 5 + 6))
        self.assertEqual(told[86:86 + 215] * 89, told[86:])

    def test_four_hundred_calls(self):
        told = answers(flat(*[order(0, 1), point()] * 200))
        self.assertEqual(told[-9:], [1, 200, 6, 1, 0, 0, 0, 1000200, 1000200])
        self.assertEqual(len(told), 200 * 9)

    def test_a_list_of_almost_sixteen_thousand_numbers(self):
        row = [0] * 400
        calls = flat(*[buys(*row), sells(*row)] * 19, result(1), order(0, 5), point())
        self.assertEqual(answers(calls), [1, -2] * 38 + [1, 1000001, 1, 1, 6, 1, 0, 0, 0, 1000006, 1000004])

    def test_all_found_points_of_a_line(self):
        orders = [order(step % 4, 10 ** 12 - step) for step in range(40)]
        calls = flat([0, 10 ** 12, 10 ** 18], policy(2), buys(0, 1000000), sells(0, 1000000), *orders,
                     *[point()] * 356)
        self.assertEqual(len(answers(calls)), 2 * 44 + 7 + 2 * 355)

    def test_the_list_handed_in_is_the_same_afterwards(self):
        calls = flat(*RICH, *PROBES)
        before = list(calls)
        answers(calls)
        self.assertEqual(calls, before)

    def test_the_list_handed_in_is_not_changed_for_a_while(self):
        calls = flat(*RICH, *PROBES)
        self.assertEqual(answers(Untouchable(calls)), answers(calls))

    def test_a_second_time_is_as_the_first(self):
        calls = flat(*RICH, *PROBES)
        first = answers(calls)
        answers(flat(buys(0, 1000000), policy(1, 2000, 2000), order(0, 5)))
        self.assertEqual(answers(calls), first)
        self.assertEqual(answers([6, 0, 7]), [1, 1000000, 1, -6])

    def test_what_is_given_back_is_a_new_list(self):
        first = answers([6, 0])
        first.append(5)
        self.assertEqual(answers([6, 0]), [1, 1000000])

    def test_whole_numbers_alone(self):
        told = answers(flat(*RICH, *PROBES))
        self.assertIs(type(told), list)
        self.assertEqual({type(number) for number in told}, {int})

    def test_prints_and_imports_nothing(self):
        modules = set(sys.modules)
        out, err = io.StringIO(), io.StringIO()
        with contextlib.redirect_stdout(out), contextlib.redirect_stderr(err):
            answers(flat(*RICH, *PROBES))
        self.assertEqual(out.getvalue() + err.getvalue(), "")
        self.assertEqual(set(sys.modules), modules)


if __name__ == "__main__":
    unittest.main()
