"""exercise: the money, and to whom the lots are assigned."""

from fractions import Fraction
from itertools import product
from math import ceil
from random import Random

from houseturns.runs import Run, assign, next_assigned
from tests.line import (CALL, FUTURE, LEAST, MOST, PUT, Line, LineTest, accounts, agree, ask, contract, exercise, give,
                        take, trade, turn, under)
from tests.test_trade import market


def written(*shorts, price=100, strike=90, multiple=10):
    """Account 1 is long of a call what the accounts 2, 3 .. are short, in this order."""
    trades = [trade(k + 1, 1, 1, k + 2, lots, 0) for k, lots in enumerate(shorts)]
    return [under(price), contract(CALL, 1, strike, multiple, 9), *accounts(len(shorts) + 1), *trades]


def one_by_one(n):
    return [exercise(1, 1, 1) for _ in range(n)]


def assigned_to(answered):
    return [answer[1] for answer in answered]


def chosen_by_the_words(base, assigned, count):
    """Whom the next lot goes to, by the document's words, with exact fractions."""
    total = sum(base.values())
    due = [a for a in base if assigned[a] * total < (count + 1) * base[a]]
    return min(due, key=lambda a: (ceil(Fraction((assigned[a] + 1) * total, base[a])), a))


class MoneyTest(LineTest):
    def test_call(self):
        line = Line(*market(), trade(1, 2, 1, 2, 5, 0))
        self.assertEqual(line.ask(exercise(1, 2, 3)), [[300, 2, 3]])
        self.assertEqual(line.house.cash, [300, -300, 0])
        self.assertEqual(line.lots(2), [2, -2, 0])

    def test_put(self):
        line = Line(*market(), trade(1, 3, 1, 2, 5, 0))
        self.assertEqual(line.ask(exercise(1, 3, 5)), [[1000, 2, 5]])
        self.assertEqual(line.house.cash, [1000, -1000, 0])
        self.assertEqual(line.lots(3), [0, 0, 0])

    def test_at_the_present_price(self):
        calls = [*market(), trade(1, 2, 1, 2, 5, 0), trade(2, 3, 1, 2, 5, 0), turn(119)]
        self.assertEqual(ask(*calls, exercise(1, 2, 2), exercise(1, 3, 2))[-2:], [[580, 2, 2], [20, 2, 2]])

    def test_of_its_own_underlying(self):
        calls = [under(5), under(100), contract(CALL, 2, 0, 1, 1), *accounts(2), trade(1, 1, 1, 2, 1, 0)]
        self.assertEqual(ask(*calls, exercise(1, 1, 1))[-1], [100, 2, 1])

    def test_several_are_assigned(self):
        line = Line(*written(3, 1, 2))
        self.assertEqual(line.ask(exercise(1, 1, 4)), [[400, 2, 2, 3, 1, 4, 1]])
        self.assertEqual(line.house.cash, [400, -200, -100, -100])
        self.assertEqual(line.lots(1), [2, -1, 0, -1])

    def test_most_money(self):
        calls = [under(1000000), contract(CALL, 1, 0, 1000, 1), *accounts(2), trade(1, 1, 1, 2, 1000, 0)]
        self.assertEqual(ask(*calls, exercise(1, 1, 1000))[-1], [10 ** 12, 2, 1000])
        calls = [under(0), contract(PUT, 1, 1000000, 1000, 1), *accounts(2), trade(1, 1, 1, 2, 1000, 0)]
        self.assertEqual(ask(*calls, exercise(1, 1, 1000))[-1], [10 ** 12, 2, 1000])

    def test_on_the_turn_of_the_expiry(self):
        calls = [under(9), contract(CALL, 1, 2, 1, 1), *accounts(2), trade(1, 1, 1, 2, 2, 0), exercise(1, 1, 1)]
        self.assertEqual(ask(*calls, turn(5))[-2:], [[7, 2, 1], [2, 3, -3]])

    def test_the_one_who_exercises_need_not_have_bought_from_those_assigned(self):
        line = Line(*market(4), trade(1, 2, 1, 2, 1, 0), trade(2, 2, 3, 4, 5, 0))
        self.assertEqual(line.ask(exercise(1, 2, 1)), [[100, 4, 1]])
        self.assertEqual(line.lots(2), [0, -1, 5, -4])


class AssignedTest(LineTest):
    def test_one_by_one(self):
        self.assertEqual(assigned_to(Line(*written(5, 3, 2)).ask(*one_by_one(10))), [2, 3, 2, 4, 2, 3, 2, 3, 2, 4])

    def test_equal_shares_go_by_rising_accounts(self):
        self.assertEqual(assigned_to(Line(*written(2, 2, 2)).ask(*one_by_one(6))), [2, 3, 4, 2, 3, 4])

    def test_of_equal_deadlines_the_lowest_account_though_it_came_last(self):
        calls = [under(100), contract(CALL, 1, 90, 10, 9), *accounts(4)]
        calls += [trade(1, 1, 4, 3, 1, 0), trade(2, 1, 4, 2, 1, 0), trade(3, 1, 4, 1, 1, 0)]
        self.assertEqual(ask(*calls, *[exercise(4, 1, 1)] * 3)[-3:], [[100, 1, 1], [100, 2, 1], [100, 3, 1]])

    def test_who_is_not_due_must_wait(self):
        # After each of its lots account 2 has the least deadline again, but it is not due.
        line = Line(*written(5, 1, 1, 1, 1, 1))
        self.assertEqual(assigned_to(line.ask(*one_by_one(10))), [2, 3, 2, 4, 2, 5, 2, 6, 2, 7])

    def test_the_same_account_may_be_due_twice_running(self):
        self.assertEqual(assigned_to(Line(*written(3, 1)).ask(*one_by_one(4))), [2, 2, 2, 3])

    def test_many_at_once_are_the_same_as_one_by_one(self):
        line = Line(*written(5, 3, 2))
        self.assertEqual(line.ask(exercise(1, 1, 10)), [[1000, 2, 5, 3, 3, 4, 2]])
        self.assertEqual(line.lots(1), [0, 0, 0, 0])

    def test_several_exercises_in_one_run(self):
        line = Line(*written(5, 3, 2))
        told = line.ask(exercise(1, 1, 3), exercise(1, 1, 4), exercise(1, 1, 2), exercise(1, 1, 1))
        self.assertEqual(told, [[300, 2, 2, 3, 1], [400, 2, 2, 3, 1, 4, 1], [200, 2, 1, 3, 1], [100, 4, 1]])
        self.assertEqual(line.run(1), [10, 2, 5, 5, 3, 3, 3, 4, 2, 2])

    def test_the_base_stays_while_the_run_goes_on(self):
        line = Line(*written(5, 3, 2), exercise(1, 1, 4))
        self.assertEqual(line.run(1), [4, 2, 5, 2, 3, 3, 1, 4, 2, 1])

    def test_a_run_goes_on_over_a_turns_end(self):
        line = Line(*written(5, 3, 2), exercise(1, 1, 3), turn(100))
        self.assertEqual(assigned_to(line.ask(*one_by_one(7))), [4, 2, 3, 2, 3, 2, 4])

    def test_a_run_that_began_anew_by_a_trade(self):
        line = Line(*written(5, 3, 2), exercise(1, 1, 3), trade(9, 1, 1, 3, 4, 0))
        self.assertEqual(line.run(1), [0, 2, 3, 0, 3, 6, 0, 4, 2, 0])
        # The deadlines: 2 for account 3; 4 for 2 and 3; 4 for 3; 6 for 3 and 4; 6 for 4.
        self.assertEqual(assigned_to(line.ask(*one_by_one(5))), [3, 2, 3, 3, 4])

    def test_a_run_that_began_anew_by_agreeing(self):
        line = Line(*written(5, 3, 2), exercise(1, 1, 3), trade(9, 1, 1, 3, 4, 0), agree(9, 1), agree(9, 3))
        self.assertEqual(line.run(1), [0, 2, 3, 0, 3, 2, 0, 4, 2, 0])
        self.assertEqual(assigned_to(line.ask(*one_by_one(7))), [2, 3, 4, 2, 2, 3, 4])

    def test_a_run_that_began_anew_by_a_take(self):
        line = Line(*written(5, 3, 2), exercise(1, 1, 3), trade(9, 1, 1, 3, 4, 0), give(9, 1, 4), take(9))
        self.assertEqual(line.run(1), [0, 2, 3, 0, 3, 2, 0, 4, 6, 0])
        self.assertEqual(assigned_to(line.ask(exercise(1, 1, 1))), [4])

    def test_runs_of_two_contracts_are_apart(self):
        line = Line(*market(), trade(1, 2, 1, 2, 5, 0), trade(2, 3, 1, 3, 5, 0), exercise(1, 2, 2))
        self.assertEqual([line.run(2), line.run(3)], [[2, 2, 5, 2], [0, 3, 5, 0]])

    def test_a_deadline_that_is_rounded_up_may_equal_one_that_is_not(self):
        # The second lot: 8 / 2 for account 3, 16 / 5 rounded up for account 4, and both are due.
        self.assertEqual(assigned_to(Line(*written(1, 2, 5)).ask(*one_by_one(8))), [4, 3, 4, 4, 4, 2, 3, 4])

    def assert_by_the_words(self, base):
        run = Run(dict(base))
        assigned = dict.fromkeys(base, 0)
        total = sum(base.values())
        for count in range(min(total, 120)):
            a = chosen_by_the_words(base, assigned, count)
            self.assertEqual(next_assigned(run), a, base)
            self.assertEqual(assign(run, 1), {a: 1})
            assigned[a] += 1
            for b, lots in base.items():
                self.assertLess(abs(assigned[b] * total - (count + 1) * lots), total)

    def test_small_bases_by_the_words_of_the_document(self):
        for lots in product(range(1, 6), repeat=3):
            self.assert_by_the_words(dict(zip((3, 5, 12), lots)))

    def test_drawn_bases_by_the_words_of_the_document(self):
        source = Random(11)
        for _ in range(60):
            accounts_short = sorted(source.sample(range(1, 13), 5))
            self.assert_by_the_words({a: source.choice([1, 2, 3, 7, 50, 1000]) for a in accounts_short})

    def test_in_the_end_each_has_been_assigned_all(self):
        base = {1: 17, 4: 1, 5: 400, 9: 82, 12: 500}
        self.assertEqual(assign(Run(dict(base)), 1000), base)


class RefusalsTest(LineTest):
    def test_one_lot_and_a_thousand(self):
        calls = written(1000, 1000)
        self.assertEqual(ask(*calls, exercise(1, 1, 1))[-1], [100, 2, 1])
        self.assertEqual(ask(*calls, exercise(1, 1, 1000))[-1], [100000, 2, 500, 3, 500])

    def test_out_of_range(self):
        line = Line(*written(1000, 1000))
        self.assert_all_refused(line, [exercise(1, 1, n) for n in (-1, 0, 1001, LEAST, MOST)], -1)

    def test_unknown(self):
        line = Line(*written(5))
        for wrong in (-1, 0, 3, LEAST, MOST):
            self.assert_refused(line, exercise(wrong, 1, 1), -2)
            self.assert_refused(line, exercise(1, wrong, 1), -2)

    def test_over(self):
        line = Line(under(9), contract(CALL, 1, 2, 1, 1), *accounts(2), trade(1, 1, 1, 2, 2, 0), turn(9))
        self.assert_refused(line, exercise(1, 1, 1), -3)

    def test_a_future(self):
        line = Line(*market(), trade(1, 1, 1, 2, 5, 90))
        self.assert_refused(line, exercise(1, 1, 1), -4)

    def test_too_few_lots(self):
        line = Line(*written(5))
        self.assert_refused(line, exercise(1, 1, 6), -9, [exercise(1, 1, 5)])
        self.assert_refused(line, exercise(2, 1, 1), -9)
        self.assert_refused(Line(*written(5), exercise(1, 1, 5)), exercise(1, 1, 1), -9)

    def test_an_account_without_lots(self):
        self.assert_refused(Line(*market()), exercise(1, 2, 1), -9)

    def test_a_lot_pays_nothing(self):
        for price in (0, 89, 90):
            self.assert_refused(Line(*written(5, price=price)), exercise(1, 1, 1), -14, [turn(91), exercise(1, 1, 1)])
        self.assertEqual(ask(*written(5, price=91), exercise(1, 1, 1))[-1], [10, 2, 1])

    def test_a_lot_of_a_put_pays_nothing(self):
        line = Line(*market(), trade(1, 3, 1, 2, 5, 0), turn(120))
        self.assert_refused(line, exercise(1, 3, 1), -14)
        self.assertEqual(line.ask(turn(121), turn(119), exercise(1, 3, 1))[-1], [10, 2, 1])
        self.assert_refused(Line(*market(), trade(1, 3, 1, 2, 5, 0), turn(1000000)), exercise(1, 3, 1), -14)

    def test_order_of_the_refusals(self):
        calls = [under(0), contract(CALL, 1, 2, 1, 1), contract(FUTURE, 1, 0, 1, 1), contract(FUTURE, 1, 0, 1, 9),
                 contract(CALL, 1, 2, 1, 9), *accounts(2), turn(0)]
        line = Line(*calls)
        self.assert_refused(line, exercise(9, 9, 0), -1)
        self.assert_refused(line, exercise(1, 1, 1001), -1)
        self.assert_refused(line, exercise(9, 1, 1), -2)
        self.assert_refused(line, exercise(1, 1, 1), -3)
        self.assert_refused(line, exercise(1, 2, 1), -3)
        self.assert_refused(line, exercise(1, 3, 1), -4)
        self.assert_refused(line, exercise(1, 4, 1), -9)
