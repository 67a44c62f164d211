"""position and positions: the lots of an account."""

from tests.line import (BUYER, CALL, FUTURE, LEAST, MOST, PUT, SELLER, Line, LineTest, account, accounts, agree,
                        contract, exercise, give, position, positions, take, trade, turn, under)
from tests.test_trade import market, piled


class PositionsLineTest(LineTest):
    def assert_lots(self, line, a, lots):
        """The account's lots of each contract, in order, by both calls."""
        for c, n in enumerate(lots, start=1):
            self.assert_told(line, position(a, c), [0, n])
        pairs = [(c, n) for c, n in enumerate(lots, start=1) if n]
        self.assert_told(line, positions(a), [0, *[number for pair in pairs for number in pair]])


class OrdinaryTest(PositionsLineTest):
    def test_long_short_and_0(self):
        line = Line(*market(), trade(1, 2, 1, 2, 5, 8))
        self.assertEqual(line.ask(position(1, 2), position(2, 2), position(3, 2), position(1, 3)),
                         [[0, 5], [0, -5], [0, 0], [0, 0]])
        self.assertEqual(line.ask(positions(1), positions(2), positions(3)), [[0, 2, 5], [0, 2, -5], [0]])

    def test_several_contracts_in_order_though_traded_in_another(self):
        line = Line(*market(), trade(1, 3, 1, 2, 4, 8), trade(2, 1, 2, 1, 3, 8), trade(3, 2, 1, 3, 1, 8))
        self.assertEqual(line.ask(positions(1), positions(2), positions(3)),
                         [[0, 1, -3, 2, 1, 3, 4], [0, 1, 3, 3, -4], [0, 2, -1]])
        self.assert_lots(line, 1, [-3, 1, 4])
        self.assert_lots(line, 2, [3, 0, -4])
        self.assert_lots(line, 3, [0, -1, 0])

    def test_lots_add_up(self):
        line = Line(*market(), trade(1, 2, 1, 2, 5, 8), trade(2, 2, 1, 3, 2, 8), trade(3, 2, 2, 1, 1, 8))
        for a, lots in ((1, 6), (2, -4), (3, -2)):
            self.assert_lots(line, a, [0, lots, 0])

    def test_an_account_and_a_contract_that_came_late(self):
        line = Line(*market(), trade(1, 2, 1, 2, 5, 8), account(), contract(PUT, 1, 1, 1, 9))
        self.assert_lots(line, 4, [0, 0, 0, 0])
        self.assert_lots(line, 1, [0, 5, 0, 0])

    def test_a_hundred_thousand(self):
        line = Line(*piled())
        self.assert_lots(line, 1, [0, 100000, 0])
        self.assert_lots(line, 2, [0, -100000, 0])

    def test_twelve_contracts_and_twelve_accounts(self):
        line = Line(under(5), *[contract(k % 3, 1, 0, 1, 9) for k in range(12)], *accounts(12),
                    *[trade(c, c, 1, 12, c, 5) for c in range(12, 0, -1)])
        self.assert_lots(line, 1, list(range(1, 13)))
        self.assert_lots(line, 12, [-c for c in range(1, 13)])

    def test_a_refused_trade_moves_none(self):
        line = Line(*market(), trade(1, 2, 1, 2, 5, 8), trade(1, 2, 1, 2, 5, 8))
        self.assert_lots(line, 1, [0, 5, 0])


class BackTo0Test(PositionsLineTest):
    def test_by_a_trade_the_other_way(self):
        line = Line(*market(), trade(1, 2, 1, 2, 5, 8), trade(2, 3, 1, 2, 1, 8), trade(3, 2, 2, 1, 5, 9))
        self.assert_lots(line, 1, [0, 0, 1])
        self.assert_lots(line, 2, [0, 0, -1])

    def test_by_agreeing(self):
        line = Line(*market(), trade(1, 2, 1, 2, 5, 8), agree(1, 1))
        self.assert_lots(line, 1, [0, 5, 0])
        line.ask(agree(1, 2))
        self.assert_lots(line, 1, [0, 0, 0])
        self.assert_lots(line, 2, [0, 0, 0])

    def test_by_a_take_of_the_buyers_side(self):
        line = Line(*market(), trade(1, 2, 1, 2, 5, 8), give(1, BUYER, 3))
        self.assert_lots(line, 3, [0, 0, 0])
        line.ask(take(1))
        for a, lots in ((1, 0), (2, -5), (3, 5)):
            self.assert_lots(line, a, [0, lots, 0])

    def test_by_a_take_of_the_sellers_side(self):
        line = Line(*market(), trade(1, 1, 1, 2, 5, 8), give(1, SELLER, 3), take(1))
        for a, lots in ((1, 5), (2, 0), (3, -5)):
            self.assert_lots(line, a, [lots, 0, 0])

    def test_by_an_exercise(self):
        line = Line(*market(), trade(1, 2, 1, 2, 5, 8), exercise(1, 2, 4))
        self.assert_lots(line, 1, [0, 1, 0])
        self.assert_lots(line, 2, [0, -1, 0])
        line.ask(exercise(1, 2, 1))
        self.assert_lots(line, 1, [0, 0, 0])
        self.assert_lots(line, 2, [0, 0, 0])

    def test_by_a_turn(self):
        line = Line(under(10), contract(CALL, 1, 5, 1, 1), contract(FUTURE, 1, 0, 1, 1), contract(PUT, 1, 5, 1, 2),
                    *accounts(2), *[trade(c, c, 1, 2, c, 7) for c in (1, 2, 3)])
        self.assert_lots(line, 1, [1, 2, 3])
        line.ask(turn(4))
        self.assert_lots(line, 1, [0, 0, 3])
        self.assert_lots(line, 2, [0, 0, -3])
        line.ask(turn(4))
        self.assert_lots(line, 1, [0, 0, 0])

    def test_and_away_from_it_again(self):
        line = Line(*market(), trade(1, 2, 1, 2, 5, 8), trade(2, 2, 2, 1, 5, 8), trade(3, 2, 2, 1, 2, 8))
        self.assert_lots(line, 1, [0, -2, 0])
        self.assert_lots(line, 2, [0, 2, 0])


class RefusalsTest(LineTest):
    def test_position(self):
        line = Line(*market(), trade(1, 2, 1, 2, 5, 8))
        for wrong in (-1, 0, 4, LEAST, MOST):
            self.assert_refused(line, position(wrong, 2), -2)
            self.assert_refused(line, position(1, wrong), -2)
            self.assert_refused(line, position(wrong, wrong), -2)

    def test_positions(self):
        line = Line(*market(), trade(1, 2, 1, 2, 5, 8))
        self.assert_all_refused(line, [positions(a) for a in (-1, 0, 4, LEAST, MOST)], -2)

    def test_nothing_there(self):
        self.assert_refused(Line(), position(1, 1), -2, [account()])
        self.assert_refused(Line(account()), position(1, 1), -2)
        self.assert_refused(Line(under(1), contract(CALL, 1, 0, 1, 1)), position(1, 1), -2)
        self.assert_refused(Line(under(1), contract(CALL, 1, 0, 1, 1)), positions(1), -2)
        self.assert_told(Line(account()), positions(1), [0])

    def test_a_contract_that_is_over_is_not_refused(self):
        line = Line(under(1), contract(CALL, 1, 0, 1, 1), account(), turn(1))
        self.assert_told(line, position(1, 1), [0, 0])
        self.assert_told(line, positions(1), [0])
