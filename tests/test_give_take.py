"""give and take: a side of a trade offered to an account that takes it."""

from tests.line import (BUYER, LEAST, MOST, SELLER, Line, LineTest, agree, ask, exercise, give, take, trade, turn)
from tests.test_trade import market, piled


class GiveTest(LineTest):
    def test_each_side(self):
        for side in (BUYER, SELLER):
            line = Line(*market(), trade(1, 2, 1, 2, 5, 8))
            self.assertEqual(line.ask(give(1, side, 3)), [[0]])
            self.assertEqual(line.lots(2), [5, -5, 0])
            self.assertEqual(line.house.cash, [-400, 400, 0])

    def test_an_offer_instead_of_an_earlier_one(self):
        line = Line(*market(4), trade(1, 2, 1, 2, 5, 8), give(1, BUYER, 3), give(1, SELLER, 4), take(1))
        self.assertEqual(line.lots(2), [5, 0, 0, -5])
        line = Line(*market(4), trade(1, 2, 1, 2, 5, 8), give(1, SELLER, 3), give(1, SELLER, 4), take(1))
        self.assertEqual(line.lots(2), [5, 0, 0, -5])
        line = Line(*market(4), trade(1, 2, 1, 2, 5, 8), give(1, SELLER, 3), give(1, BUYER, 3), take(1))
        self.assertEqual(line.lots(2), [0, -5, 5, 0])

    def test_a_refused_offer_leaves_the_earlier_one(self):
        line = Line(*market(4), trade(1, 2, 1, 2, 5, 8), give(1, BUYER, 3))
        self.assert_refused(line, give(1, SELLER, 1), -10, [take(1), turn(200)])

    def test_after_an_exercise_a_side_may_still_be_offered(self):
        self.assertEqual(ask(*market(), trade(1, 2, 1, 2, 5, 8), exercise(1, 2, 1), give(1, BUYER, 3))[-1], [0])

    def test_wrong_side(self):
        line = Line(*market(), trade(1, 2, 1, 2, 5, 8))
        self.assert_all_refused(line, [give(1, s, 3) for s in (-1, 2, LEAST, MOST)], -1)

    def test_no_such_trade(self):
        line = Line(*market(), trade(1, 2, 1, 2, 5, 8))
        self.assert_all_refused(line, [give(k, BUYER, 3) for k in (-1, 0, 2, LEAST, MOST)], -6)

    def test_a_trade_of_an_earlier_turn(self):
        self.assert_refused(Line(*market(), trade(1, 2, 1, 2, 5, 8), turn(100)), give(1, BUYER, 3), -6)

    def test_no_such_taker(self):
        line = Line(*market(), trade(1, 2, 1, 2, 5, 8))
        self.assert_all_refused(line, [give(1, BUYER, a) for a in (-1, 0, 4, LEAST, MOST)], -2)

    def test_the_buyer_and_the_seller_as_taker(self):
        line = Line(*market(), trade(1, 2, 1, 2, 5, 8))
        self.assert_all_refused(line, [give(1, s, a) for s in (BUYER, SELLER) for a in (1, 2)], -10)

    def test_after_a_take_the_taker_is_a_side_and_the_giver_is_none(self):
        line = Line(*market(), trade(1, 2, 1, 2, 5, 8), give(1, BUYER, 3), take(1))
        self.assert_refused(line, give(1, SELLER, 3), -10)
        self.assertEqual(line.ask(give(1, SELLER, 1), take(1)), [[0], [0]])
        self.assertEqual(line.lots(2), [-5, 0, 5])

    def test_order_of_the_refusals(self):
        line = Line(*market(), trade(1, 2, 1, 2, 5, 8))
        self.assert_refused(line, give(9, 2, 9), -1)
        self.assert_refused(line, give(1, 2, 1), -1)
        self.assert_refused(line, give(9, 0, 9), -6)
        self.assert_refused(line, give(9, 0, 1), -6)


class TakeTest(LineTest):
    def test_the_buyers_side_of_an_option(self):
        line = Line(*market(), trade(1, 2, 1, 2, 5, 8), give(1, BUYER, 3))
        self.assertEqual(line.ask(take(1)), [[0]])
        self.assertEqual(line.lots(2), [0, -5, 5])
        self.assertEqual(line.house.cash, [0, 400, -400])

    def test_the_sellers_side_of_an_option(self):
        line = Line(*market(), trade(1, 3, 1, 2, 5, 8), give(1, SELLER, 3))
        self.assertEqual(line.ask(take(1)), [[0]])
        self.assertEqual(line.lots(3), [5, 0, -5])
        self.assertEqual(line.house.cash, [-400, 0, 400])

    def test_each_side_of_a_future(self):
        line = Line(*market(), trade(1, 1, 1, 2, 5, 98), give(1, BUYER, 3), take(1))
        self.assertEqual(line.lots(1), [0, -5, 5])
        self.assertEqual(line.house.cash, [0, -100, 100])
        line.ask(give(1, SELLER, 1), take(1))
        self.assertEqual(line.lots(1), [-5, 0, 5])
        self.assertEqual(line.house.cash, [-100, 0, 100])

    def test_what_the_giver_had_besides_stays(self):
        line = Line(*market(), trade(1, 2, 1, 2, 5, 8), trade(2, 2, 1, 3, 2, 7), give(1, BUYER, 3), take(1))
        self.assertEqual(line.lots(2), [2, -5, 3])
        self.assertEqual(line.house.cash, [-140, 400, -260])

    def test_the_run_begins_anew(self):
        line = Line(*market(4), trade(1, 2, 1, 2, 5, 0), exercise(1, 2, 2), trade(2, 2, 1, 3, 2, 0), give(2, SELLER, 4))
        self.assertEqual(line.run(2), [0, 2, 3, 0, 3, 2, 0])
        line.ask(take(2))
        self.assertEqual(line.run(2), [0, 2, 3, 0, 4, 2, 0])

    def test_nothing_is_offered_then(self):
        line = Line(*market(), trade(1, 2, 1, 2, 5, 8), give(1, SELLER, 3), take(1))
        self.assert_refused(line, take(1), -13, [turn(200)])

    def test_nothing_is_offered(self):
        line = Line(*market(), trade(1, 2, 1, 2, 5, 8), trade(2, 2, 1, 2, 5, 8), give(2, BUYER, 3))
        self.assert_refused(line, take(1), -13, [turn(200)])

    def test_nobody_has_agreed_then(self):
        for agreed, side in ((1, BUYER), (1, SELLER), (2, BUYER), (2, SELLER)):
            line = Line(*market(), trade(1, 2, 1, 2, 5, 8), agree(1, agreed), give(1, side, 3), take(1))
            sides = (3, 2) if side == BUYER else (1, 3)
            self.assertEqual(line.ask(agree(1, sides[0]), agree(1, sides[0]), agree(1, sides[1])), [[0], [0], [1]])

    def test_no_such_trade(self):
        line = Line(*market(), trade(1, 2, 1, 2, 5, 8), give(1, BUYER, 3))
        self.assert_all_refused(line, [take(k) for k in (-1, 0, 2, LEAST, MOST)], -6)

    def test_a_trade_of_an_earlier_turn(self):
        self.assert_refused(Line(*market(), trade(1, 2, 1, 2, 5, 8), give(1, BUYER, 3), turn(100)), take(1), -6)

    def test_after_an_exercise(self):
        line = Line(*market(), trade(1, 2, 1, 2, 5, 8), give(1, BUYER, 3), exercise(1, 2, 1))
        self.assert_refused(line, take(1), -11, [turn(100)])

    def test_an_offer_after_an_exercise_cannot_be_taken_either(self):
        line = Line(*market(), trade(1, 2, 1, 2, 5, 8), exercise(1, 2, 1), give(1, SELLER, 3))
        self.assert_refused(line, take(1), -11, [turn(100)])

    def test_nothing_offered_is_told_before_exercised_since(self):
        self.assert_refused(Line(*market(), trade(1, 2, 1, 2, 5, 8), exercise(1, 2, 1)), take(1), -13)

    def test_a_trade_done_after_the_exercise_can_be_taken(self):
        line = Line(*market(), trade(1, 2, 1, 2, 5, 8), exercise(1, 2, 1), trade(2, 2, 1, 2, 5, 8), give(2, BUYER, 3))
        self.assertEqual(line.ask(take(2)), [[0]])
        self.assertEqual(line.lots(2), [4, -9, 5])

    def test_the_taker_would_have_too_many(self):
        line = Line(*piled(n=4), trade(1, 2, 3, 4, 1, 0), give(1, BUYER, 1))
        self.assert_refused(line, take(1), -7, [turn(100)])

    def test_the_taker_would_have_too_few(self):
        line = Line(*piled(n=4), trade(1, 2, 3, 4, 1, 0), give(1, SELLER, 2))
        self.assert_refused(line, take(1), -7, [turn(100)])

    def test_the_taker_may_reach_a_hundred_thousand(self):
        line = Line(*piled(n=4), trade(1, 2, 2, 1, 1, 0), trade(2, 2, 3, 4, 1, 0), give(2, BUYER, 1), take(2),
                    give(2, SELLER, 2), take(2))
        self.assertEqual(line.answered[-4:], [[0]] * 4)
        self.assertEqual(line.lots(2), [100000, -100000, 0, 0])

    def test_the_giver_would_have_too_many_or_too_few(self):
        # Account 1 sold a lot and bought one again, so without its sale it would have 100001.
        line = Line(*piled(n=4), trade(1, 2, 3, 1, 1, 0), trade(2, 2, 1, 3, 1, 0), give(1, SELLER, 4))
        self.assert_refused(line, take(1), -7, [turn(100)])
        line = Line(*piled(n=4), trade(1, 2, 2, 3, 1, 0), trade(2, 2, 3, 2, 1, 0), give(1, BUYER, 4))
        self.assert_refused(line, take(1), -7, [turn(100)])

    def test_exercised_since_is_told_before_too_many_lots(self):
        line = Line(*piled(n=4), trade(1, 2, 3, 4, 1, 0), give(1, BUYER, 1), trade(2, 2, 3, 4, 1, 0))
        self.assert_refused(line, take(1), -7)
        line.ask(exercise(3, 2, 1))
        self.assertEqual(line.lots(2)[0], 100000)
        self.assert_refused(line, take(1), -11)
