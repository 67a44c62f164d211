"""trades: those of this turn that stand."""

from tests.line import (BUYER, CALL, SELLER, Line, LineTest, agree, ask, contract, exercise, give, take, trade, trades,
                        turn, under)
from tests.test_trade import market


class TradesTest(LineTest):
    def assert_trades(self, line, *each):
        self.assert_told(line, trades(), [0, *[number for one in each for number in one]], [turn(100), trades()])

    def test_none(self):
        self.assert_told(Line(), trades(), [0])
        self.assert_trades(Line(*market()))

    def test_one(self):
        self.assert_trades(Line(*market(), trade(9, 2, 1, 3, 5, 7)), [9, 2, 1, 3, 5, 7, 0, 0, 0, 0])

    def test_at_the_edges(self):
        line = Line(*market(12), trade(1000000000, 3, 12, 1, 1000, 1000000), trade(1, 1, 1, 12, 1, 0))
        self.assert_trades(line, [1, 1, 1, 12, 1, 0, 0, 0, 0, 0],
                           [1000000000, 3, 12, 1, 1000, 1000000, 0, 0, 0, 0])

    def test_several_by_rising_keys_told_in_another_order(self):
        line = Line(*market(), trade(30, 1, 1, 2, 3, 4), trade(4, 2, 2, 3, 5, 6), trade(100, 3, 3, 1, 7, 8),
                    trade(5, 1, 2, 1, 9, 10))
        self.assert_trades(line, [4, 2, 2, 3, 5, 6, 0, 0, 0, 0], [5, 1, 2, 1, 9, 10, 0, 0, 0, 0],
                           [30, 1, 1, 2, 3, 4, 0, 0, 0, 0], [100, 3, 3, 1, 7, 8, 0, 0, 0, 0])

    def test_sixty(self):
        line = Line(*market(), *[trade(61 - k, 2, 1, 2, k, k) for k in range(1, 61)])
        self.assert_trades(line, *[[key, 2, 1, 2, 61 - key, 61 - key, 0, 0, 0, 0] for key in range(1, 61)])

    def test_a_refused_trade_does_not_stand(self):
        line = Line(*market(), trade(9, 2, 1, 3, 5, 7), trade(9, 2, 1, 2, 1, 1), trade(8, 2, 1, 1, 1, 1))
        self.assert_trades(line, [9, 2, 1, 3, 5, 7, 0, 0, 0, 0])

    def test_who_has_agreed(self):
        line = Line(*market(), trade(1, 2, 1, 3, 5, 7), trade(2, 2, 1, 3, 5, 7))
        line.ask(agree(1, 1), agree(2, 3))
        self.assert_trades(line, [1, 2, 1, 3, 5, 7, 1, 0, 0, 0], [2, 2, 1, 3, 5, 7, 0, 1, 0, 0])
        line.ask(agree(1, 1))
        self.assert_trades(line, [1, 2, 1, 3, 5, 7, 1, 0, 0, 0], [2, 2, 1, 3, 5, 7, 0, 1, 0, 0])

    def test_both_have_agreed(self):
        line = Line(*market(), trade(1, 2, 1, 3, 5, 7), trade(2, 2, 1, 3, 5, 7), agree(1, 1), agree(1, 3))
        self.assert_trades(line, [2, 2, 1, 3, 5, 7, 0, 0, 0, 0])
        line.ask(agree(2, 3), agree(2, 1))
        self.assert_trades(line)

    def test_what_is_offered(self):
        line = Line(*market(12), trade(1, 2, 1, 3, 5, 7), trade(2, 2, 1, 3, 5, 7), trade(3, 2, 1, 3, 5, 7))
        line.ask(give(1, BUYER, 12), give(2, SELLER, 2))
        self.assert_trades(line, [1, 2, 1, 3, 5, 7, 0, 0, 1, 12], [2, 2, 1, 3, 5, 7, 0, 0, 2, 2],
                           [3, 2, 1, 3, 5, 7, 0, 0, 0, 0])

    def test_an_offer_that_was_replaced(self):
        line = Line(*market(4), trade(1, 2, 1, 3, 5, 7), give(1, BUYER, 2), give(1, SELLER, 4))
        self.assert_trades(line, [1, 2, 1, 3, 5, 7, 0, 0, 2, 4])
        line.ask(give(1, BUYER, 4))
        self.assert_trades(line, [1, 2, 1, 3, 5, 7, 0, 0, 1, 4])
        line.ask(give(1, BUYER, 1))
        self.assert_trades(line, [1, 2, 1, 3, 5, 7, 0, 0, 1, 4])

    def test_agreed_and_offered_together(self):
        line = Line(*market(), trade(1, 2, 1, 3, 5, 7), give(1, SELLER, 2), agree(1, 3))
        self.assert_trades(line, [1, 2, 1, 3, 5, 7, 0, 1, 2, 2])

    def test_after_a_take(self):
        line = Line(*market(), trade(1, 2, 1, 3, 5, 7), trade(2, 2, 1, 3, 5, 7), agree(1, 1), agree(2, 3),
                    give(1, BUYER, 2), give(2, SELLER, 2), take(1), take(2))
        self.assert_trades(line, [1, 2, 2, 3, 5, 7, 0, 0, 0, 0], [2, 2, 1, 2, 5, 7, 0, 0, 0, 0])
        line.ask(agree(1, 2), give(1, SELLER, 1))
        self.assert_trades(line, [1, 2, 2, 3, 5, 7, 1, 0, 2, 1], [2, 2, 1, 2, 5, 7, 0, 0, 0, 0])

    def test_after_an_exercise_it_still_stands(self):
        line = Line(*market(), trade(1, 2, 1, 3, 5, 7), agree(1, 1), give(1, BUYER, 2), exercise(1, 2, 5), take(1))
        self.assert_trades(line, [1, 2, 1, 3, 5, 7, 1, 0, 1, 2])

    def test_after_a_turn(self):
        line = Line(*market(), trade(1, 2, 1, 3, 5, 7), trade(2, 2, 1, 3, 5, 7), give(1, BUYER, 2), agree(2, 1))
        line.ask(turn(100))
        self.assert_trades(line)
        line.ask(trade(2, 3, 3, 2, 1, 1))
        self.assert_trades(line, [2, 3, 3, 2, 1, 1, 0, 0, 0, 0])

    def test_after_a_refused_turn(self):
        line = Line(*market(), trade(1, 2, 1, 3, 5, 7), turn())
        self.assert_trades(line, [1, 2, 1, 3, 5, 7, 0, 0, 0, 0])

    def test_whole_numbers_alone(self):
        line = [*market(), trade(1, 2, 1, 3, 5, 7), agree(1, 1), under(3), contract(CALL, 2, 1, 1, 1), trades()]
        self.assertEqual({type(number) for number in ask(*line)[-1]}, {int})
