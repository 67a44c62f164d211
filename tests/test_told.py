"""told: the turn, the underlyings, the contracts, the accounts and their lots."""

from tests.line import (BUYER, CALL, FUTURE, PUT, SELLER, Line, LineTest, account, accounts, agree, ask, contract,
                        exercise, give, take, told, trade, turn, under)
from tests.test_trade import market, piled

MARKET = [1, 1, 100, 3, 0, 1, 0, 10, 5, 0, 1, 1, 90, 10, 5, 0, 2, 1, 120, 10, 5, 0]


class ToldTest(LineTest):
    def assert_all(self, line, *parts):
        self.assert_told(line, told(), [number for part in parts for number in part])

    def test_a_new_house(self):
        self.assert_all(Line(), [1, 0, 0, 0])

    def test_the_turn(self):
        self.assert_all(Line(turn()), [2, 0, 0, 0])
        self.assert_all(Line(*[turn()] * 398), [399, 0, 0, 0])

    def test_underlyings(self):
        line = Line(under(7), under(0), under(1000000))
        self.assert_all(line, [1], [3, 7, 0, 1000000], [0], [0])
        line.ask(turn(1000000, 3, 0), under(9))
        self.assert_all(line, [2], [4, 1000000, 3, 0, 9], [0], [0])

    def test_contracts(self):
        line = Line(under(7), under(8), contract(PUT, 2, 30, 40, 50), contract(FUTURE, 1, 0, 1000, 1000000),
                    contract(CALL, 1, 1000000, 1, 1))
        self.assert_all(line, [1], [2, 7, 8],
                        [3, 2, 2, 30, 40, 50, 0, 0, 1, 0, 1000, 1000000, 0, 1, 1, 1000000, 1, 1, 0], [0])

    def test_contracts_that_are_over(self):
        line = Line(under(7), contract(CALL, 1, 5, 1, 1), contract(FUTURE, 1, 0, 1, 2), contract(PUT, 1, 5, 1, 3))
        for t, over in ((1, [0, 0, 0]), (2, [1, 0, 0]), (3, [1, 1, 0]), (4, [1, 1, 1]), (5, [1, 1, 1])):
            self.assert_all(line, [t], [1, 7], [3, 1, 1, 5, 1, 1, over[0], 0, 1, 0, 1, 2, over[1]],
                            [2, 1, 5, 1, 3, over[2]], [0])
            line.ask(turn(7))

    def test_accounts(self):
        self.assert_all(Line(account()), [1], [0], [0], [1, 0])
        self.assert_all(Line(*accounts(12)), [1], [0], [0], [12] + [0] * 12)

    def test_cash_and_lots(self):
        line = Line(*market(), trade(1, 3, 1, 2, 4, 8), trade(2, 1, 3, 1, 3, 97), trade(3, 2, 2, 3, 1, 8))
        self.assert_all(line, MARKET, [3, -320 - 90, 320 - 80, 90 + 80],
                        [1, 1, -3], [1, 3, 4], [2, 2, 1], [2, 3, -4], [3, 1, 3], [3, 2, -1])

    def test_lots_that_are_0_again(self):
        line = Line(*market(), trade(1, 2, 1, 2, 5, 8), trade(2, 3, 1, 3, 5, 1))
        line.ask(trade(3, 2, 2, 1, 5, 8))
        self.assert_all(line, MARKET, [3, -50, 0, 50], [1, 3, 5], [3, 3, -5])
        line.ask(agree(2, 1), agree(2, 3))
        self.assert_all(line, MARKET, [3, 0, 0, 0])

    def test_after_a_take(self):
        line = Line(*market(), trade(1, 2, 1, 2, 5, 8), give(1, BUYER, 3))
        self.assert_all(line, MARKET, [3, -400, 400, 0], [1, 2, 5], [2, 2, -5])
        line.ask(take(1))
        self.assert_all(line, MARKET, [3, 0, 400, -400], [2, 2, -5], [3, 2, 5])
        line.ask(give(1, SELLER, 1), take(1))
        self.assert_all(line, MARKET, [3, 400, 0, -400], [1, 2, -5], [3, 2, 5])

    def test_after_an_exercise(self):
        line = Line(*market(), trade(1, 2, 1, 2, 5, 0), trade(2, 2, 1, 3, 1, 0), exercise(1, 2, 5))
        # The deadlines of both are 6 for the fifth lot, so account 2 is assigned that one too.
        self.assert_all(line, MARKET, [3, 500, -500, 0], [1, 2, 1], [3, 2, -1])

    def test_after_a_turn(self):
        line = Line(under(10), contract(CALL, 1, 8, 5, 1), contract(FUTURE, 1, 0, 2, 2), *accounts(2),
                    trade(1, 1, 1, 2, 2, 0), trade(2, 2, 2, 1, 3, 10), turn(12))
        self.assert_all(line, [2], [1, 12], [2, 1, 1, 8, 5, 1, 1, 0, 1, 0, 2, 2, 0], [2, 40 - 12, -40 + 12],
                        [1, 2, -3], [2, 2, 3])
        line.ask(turn(11))
        self.assert_all(line, [3], [1, 11], [2, 1, 1, 8, 5, 1, 1, 0, 1, 0, 2, 2, 1], [2, 28 + 6, -28 - 6])

    def test_everything_full(self):
        line = Line(*[under(p) for p in (1, 2, 3, 4)], *[contract(CALL, 1 + k % 4, 0, 1, 9) for k in range(12)],
                    *accounts(12), *[trade(c, c, c, 1 + c % 12, c, 1) for c in range(1, 13)])
        terms = [number for k in range(12) for number in (1, 1 + k % 4, 0, 1, 9, 0)]
        money = [-1 + 12] + [-c + (c - 1) for c in range(2, 13)]
        lots = [1, 1, 1, 1, 12, -12]
        for a in range(2, 13):
            lots += [a, a - 1, -(a - 1), a, a, a]
        self.assert_all(line, [1], [4, 1, 2, 3, 4], [12, *terms], [12, *money], lots)

    def test_much(self):
        line = Line(*piled())
        self.assertEqual(line.ask(told())[0][-9:], [0, 0, 0, 1, 2, 100000, 2, 2, -100000])

    def test_refused_calls_leave_it(self):
        line = Line(*market(), trade(1, 2, 1, 2, 5, 8), trade(1, 2, 1, 2, 5, 8), under(-1), contract(3, 1, 0, 1, 1),
                    exercise(1, 2, 6), turn(-1), turn(1, 1))
        self.assert_all(line, MARKET, [3, -400, 400, 0], [1, 2, 5], [2, 2, -5])

    def test_whole_numbers_alone(self):
        line = [under(3), contract(CALL, 1, 1, 1, 1), account(), turn(3), contract(CALL, 1, 1, 1, 2), told()]
        self.assertEqual({type(number) for number in ask(*line)[-1]}, {int})
