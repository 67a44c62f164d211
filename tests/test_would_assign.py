"""would_assign: who would be assigned lots, and nothing changes by it."""

from random import Random

from tests.line import (CALL, FUTURE, LEAST, MOST, Line, LineTest, account, accounts, agree, ask, contract, exercise,
                        open_lots, position, run, told, trade, turn, under, would_assign)
from tests.test_exercise import chosen_by_the_words, one_by_one, written
from tests.test_trade import market


class WouldAssignTest(LineTest):
    def assert_would(self, line, n, *answer):
        """What it tells of contract 1, and that an exercise of as many lots assigns just that."""
        self.assert_told(line, would_assign(1, n), [0, *answer], [exercise(1, 1, n), run(1), told()])
        self.assertEqual(ask(*line.calls, would_assign(1, n), exercise(1, 1, n))[-1][1:], list(answer))

    def test_some_lots(self):
        line = Line(*written(5, 3, 2))
        self.assert_would(line, 1, 2, 1)
        self.assert_would(line, 2, 2, 1, 3, 1)
        self.assert_would(line, 4, 2, 2, 3, 1, 4, 1)
        self.assert_would(line, 10, 2, 5, 3, 3, 4, 2)

    def test_behind_an_exercise(self):
        line = Line(*written(5, 3, 2), exercise(1, 1, 3))
        self.assert_would(line, 1, 4, 1)
        self.assert_would(line, 3, 2, 1, 3, 1, 4, 1)
        self.assert_would(line, 7, 2, 3, 3, 2, 4, 2)

    def test_one_by_one(self):
        line = Line(*written(5, 3, 2))
        for call in one_by_one(10):
            would = line.ask(would_assign(1, 1))[0]
            self.assertEqual(line.ask(call)[0][1:], would[1:])

    def test_a_thousand(self):
        line = Line(*written(1000, 500, 500))
        self.assert_would(line, 1000, 2, 500, 3, 250, 4, 250)
        self.assert_would(Line(*written(1000)), 1000, 2, 1000)
        self.assert_would(Line(*written(1000)), 1, 2, 1)

    def test_just_as_many_as_there_are_and_one_more(self):
        line = Line(*written(5, 3, 2))
        self.assert_would(line, 10, 2, 5, 3, 3, 4, 2)
        self.assert_refused(line, would_assign(1, 11), -9, [exercise(1, 1, 10)])
        line.ask(exercise(1, 1, 7))
        self.assert_would(line, 3, 2, 1, 3, 1, 4, 1)
        self.assert_refused(line, would_assign(1, 4), -9, [exercise(1, 1, 3)])
        line.ask(exercise(1, 1, 3))
        self.assert_refused(line, would_assign(1, 1), -9)

    def test_just_a_thousand_and_one_less(self):
        line = Line(*written(600, 400))
        self.assert_would(line, 1000, 2, 600, 3, 400)
        self.assert_refused(Line(*written(600, 399)), would_assign(1, 1000), -9)

    def test_equal_deadlines_go_to_the_lowest_account(self):
        line = Line(*written(2, 2, 2))
        self.assert_would(line, 1, 2, 1)
        self.assert_would(line, 2, 2, 1, 3, 1)
        line.ask(exercise(1, 1, 1))
        self.assert_would(line, 1, 3, 1)
        calls = [under(100), contract(CALL, 1, 90, 10, 9), *accounts(4)]
        line = Line(*calls, trade(1, 1, 4, 3, 1, 0), trade(2, 1, 4, 2, 1, 0), trade(3, 1, 4, 1, 1, 0))
        self.assert_told(line, would_assign(1, 2), [0, 1, 1, 2, 1])

    def test_who_would_get_none_is_not_told(self):
        line = Line(*written(5, 1, 1, 1, 1, 1))
        self.assert_would(line, 2, 2, 1, 3, 1)
        line.ask(exercise(1, 1, 3))
        self.assert_would(line, 1, 4, 1)
        self.assert_would(line, 4, 2, 2, 4, 1, 5, 1)

    def test_asked_again_it_tells_the_same(self):
        line = Line(*written(5, 3, 2), exercise(1, 1, 1))
        self.assertEqual(line.ask(*[would_assign(1, 4)] * 5), [[0, 2, 2, 3, 1, 4, 1]] * 5)

    def test_the_run_and_the_lots_stay(self):
        line = Line(*written(5, 3, 2), exercise(1, 1, 4))
        seen = [run(1), open_lots(1), *[position(a, 1) for a in (1, 2, 3, 4)], told()]
        before = line.ask(*seen)
        self.assertEqual(before[:2], [[4, 2, 5, 2, 3, 3, 1, 4, 2, 1], [6]])
        for n in range(1, 8):
            self.assertEqual(line.ask(would_assign(1, n), *seen)[1:], before)

    def test_a_run_that_began_anew(self):
        line = Line(*written(5, 3, 2), exercise(1, 1, 3), trade(9, 1, 1, 3, 4, 0))
        self.assert_would(line, 5, 2, 1, 3, 3, 4, 1)
        line.ask(agree(9, 1), agree(9, 3))
        self.assert_would(line, 3, 2, 1, 3, 1, 4, 1)

    def test_a_future_a_lot_that_pays_nothing_and_a_turns_end(self):
        line = Line(*market(), trade(1, 1, 1, 2, 5, 90), trade(2, 2, 1, 2, 5, 0), exercise(1, 2, 1), turn(0))
        self.assert_told(line, would_assign(1, 3), [0, 2, 3])
        self.assert_told(line, would_assign(2, 4), [0, 2, 4])
        self.assert_refused(line, would_assign(2, 5), -9)

    def test_drawn_runs_by_the_words_of_the_document(self):
        source = Random(5)
        for _ in range(40):
            shorts = [source.choice([1, 2, 3, 7, 30]) for _ in range(source.randint(1, 6))]
            base = dict(enumerate(shorts, start=2))
            first = source.randint(0, sum(shorts) - 1)
            n = source.randint(1, sum(shorts) - first)
            assigned = dict.fromkeys(base, 0)
            for count in range(first + n):
                if count == first:
                    before = dict(assigned)
                assigned[chosen_by_the_words(base, assigned, count)] += 1
            grown = [(a, assigned[a] - before[a]) for a in base if assigned[a] > before[a]]
            line = Line(*written(*shorts), *one_by_one(first))
            self.assert_would(line, n, *[number for pair in grown for number in pair])


class RefusalsTest(LineTest):
    def test_out_of_range(self):
        line = Line(*written(1000, 1000))
        self.assert_all_refused(line, [would_assign(1, n) for n in (-1, 0, 1001, LEAST, MOST)], -1)

    def test_unknown(self):
        line = Line(*written(5))
        self.assert_all_refused(line, [would_assign(c, 1) for c in (-1, 0, 2, LEAST, MOST)], -2)
        self.assert_refused(Line(account()), would_assign(1, 1), -2, [account()])

    def test_more_than_there_are(self):
        line = Line(*market(), trade(1, 2, 1, 2, 5, 8))
        self.assert_refused(line, would_assign(2, 6), -9)
        self.assert_refused(line, would_assign(2, 1000), -9)
        self.assert_refused(line, would_assign(3, 1), -9)

    def test_nobody_is_short_any_more(self):
        self.assert_refused(Line(*written(5), agree(1, 1), agree(1, 2)), would_assign(1, 1), -9)
        self.assert_refused(Line(*written(5), exercise(1, 1, 5)), would_assign(1, 1), -9)

    def test_a_contract_that_is_over(self):
        line = Line(under(9), contract(CALL, 1, 2, 1, 1), contract(FUTURE, 1, 0, 1, 1), *accounts(2),
                    trade(1, 1, 1, 2, 2, 0), trade(2, 2, 1, 2, 2, 0), turn(9))
        self.assert_refused(line, would_assign(1, 1), -9)
        self.assert_refused(line, would_assign(2, 1), -9)

    def test_order_of_the_refusals(self):
        line = Line(*written(5))
        for n in (-1, 0, 1001, LEAST, MOST):
            self.assert_refused(line, would_assign(9, n), -1)
            self.assert_refused(line, would_assign(0, n), -1)
        self.assert_refused(line, would_assign(1, 1001), -1)
        self.assert_refused(line, would_assign(2, 1000), -2)
        self.assert_refused(line, would_assign(1, 1000), -9)
