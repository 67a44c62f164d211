"""cash: what an account has, above or below 0."""

from tests.line import (BUYER, CALL, FUTURE, LEAST, MOST, PUT, SELLER, Line, LineTest, account, accounts, agree, cash,
                        contract, exercise, give, take, trade, turn, under)
from tests.test_trade import market


class CashTest(LineTest):
    def assert_cash(self, line, *each):
        for a, money in enumerate(each, start=1):
            self.assert_told(line, cash(a), [0, money], [turn(100)])

    def test_0_at_first(self):
        self.assert_cash(Line(account()), 0)
        self.assert_cash(Line(*market()), 0, 0, 0)

    def test_a_trade_of_an_option(self):
        self.assert_cash(Line(*market(), trade(1, 2, 1, 2, 5, 8)), -400, 400, 0)
        self.assert_cash(Line(*market(), trade(1, 3, 2, 3, 1, 7)), 0, -70, 70)
        self.assert_cash(Line(*market(), trade(1, 2, 1, 2, 5, 0)), 0, 0, 0)

    def test_a_trade_of_a_future(self):
        self.assert_cash(Line(*market(), trade(1, 1, 1, 2, 5, 98)), 100, -100, 0)
        self.assert_cash(Line(*market(), trade(1, 1, 1, 2, 5, 103)), -150, 150, 0)
        self.assert_cash(Line(*market(), trade(1, 1, 1, 2, 5, 100)), 0, 0, 0)

    def test_it_adds_up(self):
        line = Line(*market(), trade(1, 1, 1, 2, 5, 98), trade(2, 2, 1, 3, 2, 9), trade(3, 3, 2, 1, 1, 30))
        self.assert_cash(line, 100 - 180 + 300, -100 - 300, 180)

    def test_an_agreement(self):
        line = Line(*market(), trade(1, 2, 1, 2, 5, 8), trade(2, 1, 3, 2, 1, 90), agree(1, 2))
        self.assert_cash(line, -400, 400 - 100, 100)
        line.ask(agree(1, 1))
        self.assert_cash(line, 0, -100, 100)
        line.ask(agree(2, 2), agree(2, 3))
        self.assert_cash(line, 0, 0, 0)

    def test_a_take(self):
        line = Line(*market(), trade(1, 2, 1, 2, 5, 8), give(1, BUYER, 3))
        self.assert_cash(line, -400, 400, 0)
        line.ask(take(1))
        self.assert_cash(line, 0, 400, -400)
        line = Line(*market(), trade(1, 1, 1, 2, 5, 98), give(1, SELLER, 3), take(1))
        self.assert_cash(line, 100, 0, -100)

    def test_an_exercise(self):
        line = Line(*market(), trade(1, 2, 1, 2, 5, 8), trade(2, 2, 1, 3, 5, 8), exercise(1, 2, 3))
        self.assert_cash(line, -800 + 300, 400 - 200, 400 - 100)

    def test_a_turn(self):
        line = Line(under(100), contract(FUTURE, 1, 0, 10, 5), contract(CALL, 1, 90, 1, 1), contract(PUT, 1, 90, 1, 2),
                    *accounts(3), trade(1, 1, 1, 2, 5, 98), trade(2, 2, 3, 1, 4, 2), trade(3, 3, 3, 2, 4, 1), turn(95))
        self.assert_cash(line, 100 + 8 - 250 - 20, -100 + 4 + 250, -8 - 4 + 20)
        line.ask(turn(80))
        self.assert_cash(line, -162 - 750, 154 + 750 - 40, 8 + 40)

    def test_a_refused_call_moves_none(self):
        line = Line(*market(), trade(1, 2, 1, 2, 5, 8), trade(1, 2, 1, 2, 5, 8), exercise(1, 2, 6), turn(-1), turn())
        self.assert_cash(line, -400, 400, 0)

    def test_much_money(self):
        # 100000 lots of a multiple of 1000, bought at 1000000, in two turns of 50 trades each.
        calls = [under(0), contract(PUT, 1, 1000000, 1000, 9), *accounts(2)]
        heap = [trade(k, 1, 1, 2, 1000, 1000000) for k in range(1, 51)]
        line = Line(*calls, *heap, turn(0), *heap)
        self.assertEqual(line.ask(cash(1), cash(2)), [[0, -10 ** 14], [0, 10 ** 14]])

    def test_unknown(self):
        line = Line(*market(), trade(1, 2, 1, 2, 5, 8))
        self.assert_all_refused(line, [cash(a) for a in (-1, 0, 4, LEAST, MOST)], -2)
        self.assert_refused(Line(), cash(1), -2, [account()])
        self.assert_refused(Line(under(1), contract(CALL, 1, 0, 1, 1)), cash(1), -2)
