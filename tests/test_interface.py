"""answers: the form of what is handed in and given back."""

import contextlib
import io
import sys
import unittest

from houseturns.books import answers
from tests.line import (CALL, FUTURE, LEAST, MOST, account, accounts, agree, ask, cash, contract, exercise, give,
                        joined, open_lots, position, positions, run, take, told, trade, trades, turn, under,
                        would_assign)

ORDINARY = [
    under(100), contract(FUTURE, 1, 0, 10, 5), contract(CALL, 1, 90, 10, 2), account(), account(), account(),
    trade(7, 1, 1, 2, 3, 99), trade(8, 2, 1, 2, 4, 5), give(7, 0, 3), take(7), agree(7, 3), agree(7, 2),
    exercise(1, 2, 2), exercise(1, 2, 3), turn(101), turn(), turn(95),
]
ANSWERED = [
    1, 1, 1, 1, 1, 2, 1, 1, 1, 2, 1, 3,
    1, 0, 1, 0, 1, 0, 1, 0, 1, 0, 1, 1,
    3, 200, 2, 2, 1, -9, 4, 2, 0, 0, 0, 1, -15, 4, 3, 100, -100, 0,
]

# Written out, so that the numbers of the calls and of their answers stand here as the document tells them.
TELLING = [
    1, 100, 2, 1, 1, 90, 10, 5, 0, 0, 0, 3, 7, 1, 1, 2, 5, 8, 3, 4, 1, 1, 3, 3, 0, 5, 7, 1, 3, 4, 7, 1,
    9, 1, 1, 9, 2, 1, 10, 1, 11, 1, 12, 1, 13, 1, 2, 14, 1, 15, 16, 9, 4, 1, 13, 1, 9,
]
TOLD = [
    1, 1, 1, 1, 1, 1, 1, 2, 1, 3, 1, 0, 1, 0, 1, 0, 1, 0,
    2, 0, 8,
    2, 0, -5,
    3, 0, 1, 8,
    2, 0, -400,
    7, 0, 2, 5, 0, 3, 3, 0,
    5, 0, 2, 1, 3, 1,
    1, 8,
    21, 0, 4, 1, 1, 3, 3, 0, 0, 0, 0, 0, 7, 1, 1, 2, 5, 8, 1, 0, 2, 3,
    23, 1, 1, 100, 1, 1, 1, 90, 10, 5, 0, 3, -400, 400, 0, 1, 1, 8, 2, 1, -5, 3, 1, -3,
    1, -2,
    1, -9,
]


class Untouchable(list):
    """A list that tells when something tries to change it, be it only for a while."""

    def refuse(self, *args, **kwargs):
        raise RuntimeError("what was handed in was changed")

    append = clear = extend = insert = pop = remove = reverse = sort = refuse
    __setitem__ = __delitem__ = __iadd__ = __imul__ = refuse


class FormTest(unittest.TestCase):
    def test_an_ordinary_line_number_by_number(self):
        self.assertEqual(answers(joined(ORDINARY)), ANSWERED)

    def test_the_calls_that_tell_number_by_number(self):
        self.assertEqual(answers(TELLING), TOLD)

    def test_one_call(self):
        self.assertEqual(answers([0]), [1, 1])
        self.assertEqual(answers([8, 0]), [1, 2])
        self.assertEqual(answers([6, 1]), [1, -6])
        self.assertEqual(answers([15]), [1, 0])
        self.assertEqual(answers([16]), [4, 1, 0, 0, 0])
        self.assertEqual(answers([9, 0, 0]), [1, -2])

    def test_every_call_on_a_new_house_with_the_numbers_at_the_ends(self):
        for n in (LEAST, MOST):
            calls = [under(n), contract(n, n, n, n, n), trade(n, n, n, n, n, n), agree(n, n), give(n, n, n), take(n),
                     exercise(n, n, n), turn(n, n, n, n)]
            self.assertEqual(ask(*calls), [[-1], [-1], [-1], [-6], [-1], [-6], [-1], [-1]])
            calls = [position(n, n), positions(n), cash(n), run(n), would_assign(n, n), open_lots(n), trades(), told()]
            self.assertEqual(ask(*calls), [[-2], [-2], [-2], [-2], [-1], [-2], [0], [1, 0, 0, 0]])

    def test_all_are_whole_numbers_in_a_list(self):
        for calls in (joined(ORDINARY), TELLING):
            answered = answers(calls)
            self.assertIs(type(answered), list)
            self.assertEqual({type(n) for n in answered}, {int})

    def test_a_new_house_each_time(self):
        self.assertEqual(ask(account(), under(1), turn(1)), [[1], [1], [2, 0]])
        self.assertEqual(ask(account(), turn(), under(1)), [[1], [2, 0], [1]])

    def test_the_same_list_is_answered_the_same(self):
        for calls in (joined(ORDINARY), TELLING):
            first = answers(calls)
            answers(joined([*accounts(12), under(3), turn(4)]))
            self.assertEqual(answers(calls), first)

    def test_changing_an_answer_changes_no_later_one(self):
        first = answers([0, 8, 0])
        first[:] = [9] * 9
        self.assertEqual(answers([0, 8, 0]), [1, 1, 2, 2, 0])
        first = answers(TELLING)
        first.clear()
        self.assertEqual(answers(TELLING), TOLD)

    def test_what_is_handed_in_is_not_changed(self):
        calls = joined(ORDINARY)
        before = list(calls)
        answers(calls)
        self.assertEqual(calls, before)
        self.assertEqual(answers(Untouchable(calls)), ANSWERED)
        before = list(TELLING)
        self.assertEqual(answers(Untouchable(TELLING)), TOLD)
        answers(TELLING)
        self.assertEqual(TELLING, before)

    def test_nothing_is_printed_or_read(self):
        printed = io.StringIO()
        with contextlib.redirect_stdout(printed), contextlib.redirect_stderr(printed):
            answers(joined(ORDINARY))
            answers(TELLING)
        self.assertEqual(printed.getvalue(), "")


class SizeTest(unittest.TestCase):
    def test_four_hundred_calls(self):
        self.assertEqual(ask(*[turn()] * 400), [[n] for n in range(2, 402)])

    def test_four_hundred_calls_of_every_kind(self):
        calls = [*accounts(12), *[under(p) for p in (100, 200, 300, 400)],
                 *[contract(k % 3, 1 + k % 4, 50 if k % 3 else 0, 1000, 1000000) for k in range(12)]]
        key = 0
        while len(calls) < 395:
            key += 1
            c = 1 + key % 12
            calls += [trade(key, c, 1 + key % 12, 1 + (key + 1) % 12, 1000, 7), give(key, key % 2, 1 + (key + 5) % 12),
                      take(key), agree(key, 1 + key % 12), exercise(1 + key % 12, c, 1000)]
            if key % 50 == 0:
                calls += [turn(1, 2, 3, 4)]
        calls += [turn(4, 3, 2, 1)] * (400 - len(calls))
        answered = ask(*calls)
        self.assertEqual(len(answered), 400)
        self.assertEqual({len(answered[n]) for n, call in enumerate(calls) if call[0] == 8}, {13})

    def test_four_hundred_calls_that_tell_of_a_full_house(self):
        calls = [*[under(100)] * 4, *[contract(k % 3, 1 + k % 4, 0, 1000, 9) for k in range(12)], *accounts(12)]
        calls += [trade(k, 1 + k % 12, 1 + k % 12, 1 + (k + k // 12 + 1) % 12, 1000, 7) for k in range(1, 61)]
        tells = [told(), trades(), run(1), open_lots(2), positions(3), position(4, 5), cash(12)]
        first = ask(*calls, *tells)[-7:]
        self.assertEqual([len(first[0]) > 100, len(first[1])], [True, 601])
        many = (400 - len(calls)) // 7
        self.assertEqual(ask(*calls, *tells * many)[len(calls):], first * many)

    def test_hundreds_of_times_a_thousand_lots_that_would_be_assigned(self):
        calls = [under(9), contract(CALL, 1, 0, 1, 1000), *accounts(12)]
        calls += [trade(a, 1, 1, a, 1000, 0) for a in range(2, 13)]
        answered = ask(*calls, *[would_assign(1, 1000)] * 375)[len(calls):]
        self.assertEqual(answered, answered[:1] * 375)
        self.assertEqual(sum(answered[0][2::2]), 1000)

    def test_many_calls_and_many_lots_are_gone_through_by_loops(self):
        calls = [under(9), contract(CALL, 1, 0, 1, 1000), *accounts(12)]
        calls += [trade(a, 1, 1, a, 1000, 0) for a in range(2, 13)]
        calls += [run(1), told(), trades(), would_assign(1, 1000)] * 10
        calls += [exercise(1, 1, 1000)] * 11 + [turn(9)] * 324
        limit = sys.getrecursionlimit()
        deep = len_of_stack() + 60
        sys.setrecursionlimit(deep)
        try:
            answered = answers(joined(calls))
        finally:
            sys.setrecursionlimit(limit)
        self.assertEqual(answered[-14:-12], [13, 325])


def len_of_stack():
    frame = sys._getframe()
    depth = 0
    while frame is not None:
        depth += 1
        frame = frame.f_back
    return depth


class AssignedOverTheLongRunTest(unittest.TestCase):
    def test_eleven_thousand_lots(self):
        calls = [under(9), contract(CALL, 1, 0, 1, 1000), *accounts(12)]
        calls += [trade(a, 1, 1, a, 1000, 0) for a in range(2, 13)]
        answered = ask(*calls, *[exercise(1, 1, 1000)] * 11, exercise(1, 1, 1))[-12:]
        self.assertEqual(answered[-1], [-9])
        got = dict.fromkeys(range(2, 13), 0)
        for answer in answered[:-1]:
            self.assertEqual(answer[0], 9000)
            self.assertEqual(answer[1::2], list(range(2, 13)))
            for a, lots in zip(answer[1::2], answer[2::2]):
                self.assertIn(lots, (90, 91))
                got[a] += lots
        self.assertEqual(set(got.values()), {1000})
