"""run: its count, its base, and what each was assigned."""

from tests.line import (BUYER, CALL, FUTURE, LEAST, MOST, SELLER, Line, LineTest, account, accounts, agree, contract,
                        exercise, give, run, take, trade, turn, under)
from tests.test_exercise import one_by_one, written
from tests.test_trade import market


class RunTest(LineTest):
    def assert_run(self, line, c, *answer):
        self.assert_told(line, run(c), list(answer))

    def test_before_an_exercise(self):
        self.assert_run(Line(*written(5, 3, 2)), 1, 0, 2, 5, 0, 3, 3, 0, 4, 2, 0)

    def test_behind_an_exercise(self):
        line = Line(*written(5, 3, 2), exercise(1, 1, 4))
        self.assert_run(line, 1, 4, 2, 5, 2, 3, 3, 1, 4, 2, 1)
        line.ask(exercise(1, 1, 6))
        self.assert_run(line, 1, 10, 2, 5, 5, 3, 3, 3, 4, 2, 2)

    def test_lot_by_lot(self):
        line = Line(*written(3, 1))
        told = [line.ask(call, run(1))[1] for call in one_by_one(4)]
        self.assertEqual(told, [[1, 2, 3, 1, 3, 1, 0], [2, 2, 3, 2, 3, 1, 0], [3, 2, 3, 3, 3, 1, 0],
                                [4, 2, 3, 3, 3, 1, 1]])

    def test_by_rising_accounts_though_they_came_otherwise(self):
        line = Line(*market(4), trade(1, 2, 1, 4, 1, 0), trade(2, 2, 1, 2, 5, 0), trade(3, 2, 1, 3, 3, 0))
        self.assert_run(line, 2, 0, 2, 5, 0, 3, 3, 0, 4, 1, 0)

    def test_twelve_accounts(self):
        line = Line(*market(12), *[trade(a, 2, 1, a, a, 0) for a in range(12, 1, -1)])
        self.assert_run(line, 2, 0, *[number for a in range(2, 13) for number in (a, a, 0)])

    def test_never_traded(self):
        for c in (1, 2, 3):
            self.assert_run(Line(*market()), c, 0)

    def test_a_future_has_one_too(self):
        self.assert_run(Line(*market(), trade(1, 1, 1, 2, 5, 90)), 1, 0, 2, 5, 0)

    def test_began_anew_by_a_trade(self):
        line = Line(*written(5, 3, 2), exercise(1, 1, 4))
        line.ask(trade(9, 1, 3, 2, 1, 0))
        self.assert_run(line, 1, 0, 2, 4, 0, 3, 1, 0, 4, 1, 0)

    def test_who_is_short_no_more_leaves_with_the_next_run_only(self):
        line = Line(*written(3, 1), exercise(1, 1, 4))
        self.assert_run(line, 1, 4, 2, 3, 3, 3, 1, 1)
        line.ask(trade(9, 1, 2, 3, 2, 0))
        self.assert_run(line, 1, 0, 3, 2, 0)

    def test_began_anew_without_anyone_short(self):
        line = Line(*written(5), trade(9, 1, 2, 1, 5, 0))
        self.assert_run(line, 1, 0)
        line = Line(*written(5), agree(1, 1), agree(1, 2))
        self.assert_run(line, 1, 0)

    def test_began_anew_by_agreeing(self):
        # Of the first 3 lots account 2 is assigned 2 and account 3 one.
        line = Line(*written(5, 3), exercise(1, 1, 3), trade(9, 1, 3, 2, 2, 0), agree(9, 3))
        self.assert_run(line, 1, 0, 2, 5, 0)
        line.ask(agree(9, 2))
        self.assert_run(line, 1, 0, 2, 3, 0, 3, 2, 0)

    def test_began_anew_by_a_take(self):
        # Account 4 is long 1 and comes to be short by the side it takes, account 1 by the side it gives up.
        for side, lots, answer in ((SELLER, 1, [0, 2, 3, 0, 4, 1, 0]), (BUYER, 5, [0, 1, 2, 0, 2, 3, 0, 3, 2, 0])):
            line = Line(*market(4), trade(1, 2, 1, 2, 5, 0), exercise(1, 2, 2), trade(2, 2, 1, 3, 2, 0),
                        trade(3, 2, 4, 1, lots, 0), give(2, side, 4))
            self.assert_run(line, 2, 0, 2, 3, 0, 3, 2, 0)
            line.ask(take(2))
            self.assert_run(line, 2, *answer)

    def test_stays_where_nothing_begins_it_anew(self):
        line = Line(*written(5, 3, 2), exercise(1, 1, 4), account(), under(7), contract(CALL, 1, 0, 1, 9))
        stays = [4, 2, 5, 2, 3, 3, 1, 4, 2, 1]
        self.assert_run(line, 1, *stays)
        line.ask(give(1, BUYER, 3), trade(8, 2, 1, 2, 1, 0), agree(1, 1), take(1), trade(1, 1, 1, 2, 1, 0))
        self.assert_run(line, 1, *stays)

    def test_stays_as_it_is_at_a_turns_end(self):
        line = Line(*written(5, 3, 2), exercise(1, 1, 4), turn(100), turn(0))
        self.assert_run(line, 1, 4, 2, 5, 2, 3, 3, 1, 4, 2, 1)

    def test_of_a_contract_that_is_over(self):
        line = Line(under(10), contract(CALL, 1, 8, 5, 1), contract(FUTURE, 1, 0, 5, 1), contract(CALL, 1, 8, 5, 2),
                    *accounts(2), *[trade(c, c, 1, 2, 5, 0) for c in (1, 2, 3)], exercise(1, 1, 2), exercise(1, 3, 1))
        self.assert_run(line, 1, 2, 2, 5, 2)
        line.ask(turn(10))
        self.assert_run(line, 1, 0)
        self.assert_run(line, 2, 0)
        self.assert_run(line, 3, 1, 2, 5, 1)

    def test_unknown(self):
        line = Line(*market(5), trade(1, 2, 1, 2, 5, 8))
        self.assert_all_refused(line, [run(c) for c in (-1, 0, 4, LEAST, MOST)], -2)
        self.assert_refused(Line(), run(1), -2)
        self.assert_refused(Line(account(), under(1)), run(1), -2, [contract(CALL, 1, 0, 1, 1)])
