"""turn: new prices, what expires, what is gone then."""

from tests.line import (BUYER, CALL, FUTURE, LEAST, MOST, PUT, Line, LineTest, accounts, agree, ask, contract,
                        exercise, give, take, trade, turn, under)
from tests.test_trade import market


class TurnTest(LineTest):
    def test_nothing_there(self):
        self.assertEqual(ask(turn(), turn()), [[2], [3]])

    def test_accounts_without_lots(self):
        self.assertEqual(ask(*market(2), turn(7))[-1], [2, 0, 0])

    def test_futures_are_brought_to_the_new_prices(self):
        line = Line(*market(), trade(1, 1, 1, 2, 7, 100), trade(2, 1, 3, 1, 2, 100))
        self.assertEqual(line.ask(turn(103), turn(98), turn(98)),
                         [[2, 150, -210, 60], [3, -250, 350, -100], [4, 0, 0, 0]])
        self.assertEqual(line.house.cash, [-100, 140, -40])
        self.assertEqual(line.lots(1), [5, -7, 2])

    def test_each_future_by_its_own_underlying(self):
        calls = [under(10), under(20), contract(FUTURE, 1, 0, 1, 9), contract(FUTURE, 2, 0, 3, 9), *accounts(2),
                 trade(1, 1, 1, 2, 1, 10), trade(2, 2, 2, 1, 1, 20)]
        self.assertEqual(ask(*calls, turn(11, 20), turn(11, 25))[-2:], [[2, 1, -1], [3, -15, 15]])

    def test_a_future_that_expires_is_brought_to_the_new_price_and_is_over(self):
        line = Line(under(10), contract(FUTURE, 1, 0, 5, 1), *accounts(2), trade(1, 1, 1, 2, 2, 10))
        self.assertEqual(line.ask(turn(13), turn(20)), [[2, 30, -30], [3, 0, 0]])
        self.assertEqual(line.lots(1), [0, 0])
        self.assertTrue(line.house.contracts[0].over)

    def test_options_that_expire_are_settled_at_the_new_price(self):
        line = Line(under(10), contract(CALL, 1, 8, 5, 1), contract(PUT, 1, 20, 1, 1), *accounts(3),
                    trade(1, 1, 1, 2, 2, 0), trade(2, 2, 3, 1, 4, 0))
        self.assertEqual(line.ask(turn(12)), [[2, 40 - 32, -40, 32]])
        self.assertEqual(line.house.cash, [8, -40, 32])
        self.assertEqual([line.lots(1), line.lots(2)], [[0, 0, 0], [0, 0, 0]])

    def test_options_that_expire_and_pay_nothing(self):
        line = Line(under(10), contract(CALL, 1, 8, 5, 1), contract(PUT, 1, 4, 1, 1), *accounts(2),
                    trade(1, 1, 1, 2, 2, 0), trade(2, 2, 2, 1, 4, 0))
        self.assertEqual(line.ask(turn(8)), [[2, 0, 0]])
        self.assertEqual([line.lots(1), line.lots(2)], [[0, 0], [0, 0]])

    def test_options_that_do_not_expire_yet(self):
        line = Line(under(10), contract(CALL, 1, 8, 5, 2), contract(CALL, 1, 8, 5, 1000000), *accounts(2),
                    trade(1, 1, 1, 2, 2, 0), trade(2, 2, 1, 2, 2, 0))
        self.assertEqual(line.ask(turn(12), turn(15), turn(30)), [[2, 0, 0], [3, 70, -70], [4, 0, 0]])
        self.assertEqual([line.lots(1), line.lots(2)], [[0, 0], [2, -2]])
        self.assertEqual([c.over for c in line.house.contracts], [True, False])

    def test_settled_once(self):
        line = Line(under(10), contract(CALL, 1, 8, 5, 1), *accounts(2), trade(1, 1, 1, 2, 2, 0), turn(12))
        self.assertEqual(line.ask(turn(15)), [[3, 0, 0]])

    def test_runs_of_what_is_over_are_empty_and_the_others_stay(self):
        line = Line(under(10), contract(CALL, 1, 8, 5, 1), contract(CALL, 1, 8, 5, 2), *accounts(2),
                    trade(1, 1, 1, 2, 5, 0), trade(2, 2, 1, 2, 5, 0), exercise(1, 1, 2), exercise(1, 2, 3))
        self.assertEqual([line.run(1), line.run(2)], [[2, 2, 5, 2], [3, 2, 5, 3]])
        line.ask(turn(10))
        self.assertEqual([line.run(1), line.run(2)], [[0], [3, 2, 5, 3]])

    def test_trades_and_spent_keys_are_gone(self):
        line = Line(*market(), trade(1, 2, 1, 2, 5, 0), give(1, BUYER, 3), turn(100))
        self.assertEqual(line.ask(agree(1, 1), take(1), give(1, BUYER, 3)), [[-6], [-6], [-6]])
        self.assertEqual(line.ask(trade(1, 2, 2, 1, 5, 0), take(1)), [[0], [-13]])

    def test_prices_at_their_edges(self):
        line = Line(under(0), under(1000000), turn(1000000, 0))
        self.assertEqual(line.house.prices, [1000000, 0])

    def test_the_turn_of_an_expiry_decides_not_how_many_turns(self):
        line = Line(under(10), turn(10), turn(10), contract(CALL, 1, 0, 1, 3), *accounts(2), trade(1, 1, 1, 2, 1, 0))
        self.assertEqual(line.ask(turn(4)), [[4, 4, -4]])

    def test_four_underlyings(self):
        line = Line(*[under(p) for p in (1, 2, 3, 4)], contract(FUTURE, 4, 0, 1, 9), *accounts(2),
                    trade(1, 1, 1, 2, 1, 4))
        self.assertEqual(line.ask(turn(9, 9, 9, 6)), [[2, 2, -2]])


class RefusalsTest(LineTest):
    def test_wrong_prices(self):
        line = Line(under(1), under(2), contract(FUTURE, 1, 0, 1, 1), *accounts(2), trade(1, 1, 1, 2, 1, 1))
        for wrong in (-1, 1000001, LEAST, MOST):
            self.assert_refused(line, turn(wrong, 1), -1, [turn(3, 3)])
            self.assert_refused(line, turn(1, wrong), -1, [turn(3, 3)])

    def test_too_many_and_too_few(self):
        line = Line(under(1), under(2), contract(FUTURE, 1, 0, 1, 1), *accounts(2), trade(1, 1, 1, 2, 1, 1))
        for prices in ((), (1,), (1, 1, 1), (1, 1, 1, 1)):
            self.assert_refused(line, turn(*prices), -15, [turn(3, 3)])
        self.assert_refused(Line(), turn(1), -15, [turn()])

    def test_a_wrong_price_is_told_first(self):
        line = Line(under(1), under(2))
        for prices in ((-1,), (1, 1, 1000001), (1, 1, 1, -1)):
            self.assert_refused(line, turn(*prices), -1)
        self.assert_refused(Line(), turn(-1), -1)

    def test_a_refused_turn_keeps_trades_and_keys(self):
        line = Line(*market(), trade(1, 2, 1, 2, 5, 0))
        self.assert_refused(line, turn(), -15, [trade(1, 2, 1, 2, 1, 1), agree(1, 1), agree(1, 2), turn(1)])
