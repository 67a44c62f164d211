"""answers: the form of what is handed in and given back."""

import contextlib
import io
import sys
import unittest

from houseturns.books import answers
from tests.line import (CALL, FUTURE, LEAST, MOST, account, accounts, agree, ask, contract, exercise, give, joined,
                        take, trade, turn, under)

ORDINARY = [
    under(100), contract(FUTURE, 1, 0, 10, 5), contract(CALL, 1, 90, 10, 2), account(), account(), account(),
    trade(7, 1, 1, 2, 3, 99), trade(8, 2, 1, 2, 4, 5), give(7, 0, 3), take(7), agree(7, 3), agree(7, 2),
    exercise(1, 2, 2), exercise(1, 2, 3), turn(101), turn(), turn(95),
]
ANSWERED = [
    1, 1, 1, 1, 1, 2, 1, 1, 1, 2, 1, 3,
    1, 0, 1, 0, 1, 0, 1, 0, 1, 0, 1, 1,
    3, 200, 2, 2, 1, -9, 4, 2, 0, 0, 0, 1, -15, 4, 3, 100, -100, 0,
]


class Untouchable(list):
    """A list that tells when something tries to change it, be it only for a while."""

    def refuse(self, *args, **kwargs):
        raise RuntimeError("what was handed in was changed")

    append = clear = extend = insert = pop = remove = reverse = sort = refuse
    __setitem__ = __delitem__ = __iadd__ = __imul__ = refuse


class FormTest(unittest.TestCase):
    def test_an_ordinary_line_number_by_number(self):
        self.assertEqual(answers(joined(ORDINARY)), ANSWERED)

    def test_one_call(self):
        self.assertEqual(answers([0]), [1, 1])
        self.assertEqual(answers([8, 0]), [1, 2])
        self.assertEqual(answers([6, 1]), [1, -6])

    def test_every_call_on_a_new_house_with_the_numbers_at_the_ends(self):
        for n in (LEAST, MOST):
            calls = [under(n), contract(n, n, n, n, n), trade(n, n, n, n, n, n), agree(n, n), give(n, n, n), take(n),
                     exercise(n, n, n), turn(n, n, n, n)]
            self.assertEqual(ask(*calls), [[-1], [-1], [-1], [-6], [-1], [-6], [-1], [-1]])

    def test_all_are_whole_numbers_in_a_list(self):
        told = answers(joined(ORDINARY))
        self.assertIs(type(told), list)
        self.assertEqual({type(n) for n in told}, {int})

    def test_a_new_house_each_time(self):
        self.assertEqual(ask(account(), under(1), turn(1)), [[1], [1], [2, 0]])
        self.assertEqual(ask(account(), turn(), under(1)), [[1], [2, 0], [1]])

    def test_the_same_list_is_answered_the_same(self):
        calls = joined(ORDINARY)
        first = answers(calls)
        answers(joined([*accounts(12), under(3), turn(4)]))
        self.assertEqual(answers(calls), first)

    def test_changing_an_answer_changes_no_later_one(self):
        first = answers([0, 8, 0])
        first[:] = [9] * 9
        self.assertEqual(answers([0, 8, 0]), [1, 1, 2, 2, 0])

    def test_what_is_handed_in_is_not_changed(self):
        calls = joined(ORDINARY)
        before = list(calls)
        answers(calls)
        self.assertEqual(calls, before)
        self.assertEqual(answers(Untouchable(calls)), ANSWERED)

    def test_nothing_is_printed_or_read(self):
        printed = io.StringIO()
        with contextlib.redirect_stdout(printed), contextlib.redirect_stderr(printed):
            answers(joined(ORDINARY))
        self.assertEqual(printed.getvalue(), "")


class SizeTest(unittest.TestCase):
    def test_four_hundred_calls(self):
        told = ask(*[turn()] * 400)
        self.assertEqual(told, [[n] for n in range(2, 402)])

    def test_four_hundred_calls_of_every_kind(self):
        calls = [*accounts(12), *[under(p) for p in (100, 200, 300, 400)],
                 *[contract(k % 3, 1 + k % 4, 50 if k % 3 else 0, 1000, 1000000) for k in range(12)]]
        key = 0
        while len(calls) < 395:
            key += 1
            c = 1 + key % 12
            calls += [trade(key, c, 1 + key % 12, 1 + (key + 1) % 12, 1000, 7), give(key, key % 2, 1 + (key + 5) % 12),
                      take(key), agree(key, 1 + key % 12), exercise(1 + key % 12, c, 1000)]
            if key % 50 == 0:
                calls += [turn(1, 2, 3, 4)]
        calls += [turn(4, 3, 2, 1)] * (400 - len(calls))
        told = ask(*calls)
        self.assertEqual(len(told), 400)
        self.assertEqual({len(told[n]) for n, call in enumerate(calls) if call[0] == 8}, {13})

    def test_many_calls_and_many_lots_are_gone_through_by_loops(self):
        calls = [under(9), contract(CALL, 1, 0, 1, 1000), *accounts(12)]
        calls += [trade(a, 1, 1, a, 1000, 0) for a in range(2, 13)]
        calls += [exercise(1, 1, 1000)] * 11 + [turn(9)] * 364
        limit = sys.getrecursionlimit()
        deep = len_of_stack() + 60
        sys.setrecursionlimit(deep)
        try:
            told = answers(joined(calls))
        finally:
            sys.setrecursionlimit(limit)
        self.assertEqual(told[-14:-12], [13, 365])


def len_of_stack():
    frame = sys._getframe()
    depth = 0
    while frame is not None:
        depth += 1
        frame = frame.f_back
    return depth


class AssignedOverTheLongRunTest(unittest.TestCase):
    def test_eleven_thousand_lots(self):
        calls = [under(9), contract(CALL, 1, 0, 1, 1000), *accounts(12)]
        calls += [trade(a, 1, 1, a, 1000, 0) for a in range(2, 13)]
        told = ask(*calls, *[exercise(1, 1, 1000)] * 11, exercise(1, 1, 1))[-12:]
        self.assertEqual(told[-1], [-9])
        got = dict.fromkeys(range(2, 13), 0)
        for answer in told[:-1]:
            self.assertEqual(answer[0], 9000)
            self.assertEqual(answer[1::2], list(range(2, 13)))
            for a, lots in zip(answer[1::2], answer[2::2]):
                self.assertIn(lots, (90, 91))
                got[a] += lots
        self.assertEqual(set(got.values()), {1000})
