"""open_lots: how many lots those who are short are short."""

from tests.line import (BUYER, CALL, FUTURE, LEAST, MOST, SELLER, Line, LineTest, account, accounts, agree, contract,
                        exercise, give, open_lots, take, trade, turn, under)
from tests.test_exercise import written
from tests.test_trade import market, piled


class OpenLotsTest(LineTest):
    def assert_open(self, line, c, lots):
        self.assert_told(line, open_lots(c), [lots])

    def test_no_lots(self):
        for c in (1, 2, 3):
            self.assert_open(Line(*market()), c, 0)

    def test_one_and_several_that_are_short(self):
        self.assert_open(Line(*written(5)), 1, 5)
        self.assert_open(Line(*written(5, 3, 2)), 1, 10)

    def test_several_that_are_long(self):
        line = Line(*market(4), trade(1, 2, 1, 4, 5, 0), trade(2, 2, 2, 4, 3, 0), trade(3, 2, 3, 2, 1, 0))
        self.assert_open(line, 2, 8)

    def test_lots_that_are_traded_on(self):
        line = Line(*market(), trade(1, 1, 1, 2, 5, 90))
        line.ask(trade(2, 1, 3, 1, 2, 90))
        self.assert_open(line, 1, 5)
        line.ask(trade(3, 1, 2, 1, 4, 90))
        self.assert_open(line, 1, 2)
        line.ask(trade(4, 1, 2, 3, 2, 90), trade(5, 1, 1, 2, 1, 90))
        self.assert_open(line, 1, 0)

    def test_each_contract_by_itself(self):
        line = Line(*market(), *[trade(c, c, 1, 2, c, 0) for c in (1, 2, 3)])
        for c in (1, 2, 3):
            self.assert_open(line, c, c)

    def test_a_hundred_thousand_and_more(self):
        self.assert_open(Line(*piled()), 2, 100000)
        self.assert_open(Line(*piled(n=4), trade(1, 2, 3, 4, 1000, 0)), 2, 101000)

    def test_after_agree_give_and_take(self):
        line = Line(*market(4), trade(1, 2, 1, 2, 5, 0), trade(2, 2, 3, 1, 5, 0), agree(1, 1), give(2, SELLER, 4))
        self.assert_open(line, 2, 5)
        line.ask(take(2))
        self.assert_open(line, 2, 10)
        line.ask(give(2, BUYER, 2), take(2))
        self.assert_open(line, 2, 5)
        line.ask(agree(2, 2), agree(2, 4))
        self.assert_open(line, 2, 5)
        line.ask(agree(1, 2))
        self.assert_open(line, 2, 0)

    def test_after_an_exercise(self):
        line = Line(*written(5, 3, 2), exercise(1, 1, 4))
        self.assert_open(line, 1, 6)
        line.ask(exercise(1, 1, 6))
        self.assert_open(line, 1, 0)

    def test_after_a_turn(self):
        line = Line(under(10), contract(CALL, 1, 8, 5, 1), contract(FUTURE, 1, 0, 5, 1), contract(CALL, 1, 8, 5, 2),
                    *accounts(2), *[trade(c, c, 1, 2, 5, 0) for c in (1, 2, 3)], exercise(1, 3, 1), turn(10))
        for c, lots in ((1, 0), (2, 0), (3, 4)):
            self.assert_open(line, c, lots)
        line.ask(turn(10))
        self.assert_open(line, 3, 0)

    def test_unknown(self):
        line = Line(*market(5), trade(1, 2, 1, 2, 5, 8))
        self.assert_all_refused(line, [open_lots(c) for c in (-1, 0, 4, LEAST, MOST)], -2)
        self.assert_refused(Line(), open_lots(1), -2)
        self.assert_refused(Line(account(), under(1)), open_lots(1), -2, [contract(CALL, 1, 0, 1, 1)])
