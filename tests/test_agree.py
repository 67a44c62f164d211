"""agree: a trade undone by both sides."""

from tests.line import (BUYER, LEAST, MOST, SELLER, Line, LineTest, agree, ask, exercise, give, take, trade, turn)
from tests.test_trade import market, piled


class AgreeTest(LineTest):
    def test_one_side_and_then_the_other(self):
        for first, second in ((1, 2), (2, 1)):
            line = Line(*market(), trade(1, 2, 1, 2, 5, 8))
            self.assertEqual(line.ask(agree(1, first)), [[0]])
            self.assertEqual(line.lots(2), [5, -5, 0])
            self.assertEqual(line.ask(agree(1, second)), [[1]])
            self.assertEqual(line.lots(2), [0, 0, 0])
            self.assertEqual(line.house.cash, [0, 0, 0])

    def test_the_same_side_twice(self):
        for a, other in ((1, 2), (2, 1)):
            self.assertEqual(ask(*market(), trade(1, 2, 1, 2, 5, 8), agree(1, a), agree(1, a), agree(1, other))[-3:],
                             [[0], [0], [1]])

    def test_who_has_agreed_is_kept(self):
        line = Line(*market(), trade(1, 2, 1, 2, 5, 8), trade(2, 2, 1, 2, 5, 8), agree(1, 1), agree(2, 2))
        first, second = line.house.trades[1], line.house.trades[2]
        self.assertEqual([first.buyer_agreed, first.seller_agreed], [True, False])
        self.assertEqual([second.buyer_agreed, second.seller_agreed], [False, True])

    def test_an_undone_future_gives_its_money_back(self):
        line = Line(*market(), trade(1, 1, 1, 2, 5, 80), trade(2, 1, 1, 3, 1, 90), agree(1, 1), agree(1, 2))
        self.assertEqual(line.house.cash, [100, 0, -100])
        self.assertEqual(line.lots(1), [1, 0, -1])

    def test_an_undone_put_gives_its_money_back(self):
        line = Line(*market(), trade(1, 3, 1, 2, 5, 80), trade(2, 3, 1, 3, 1, 90), agree(1, 1), agree(1, 2))
        self.assertEqual(line.house.cash, [-900, 0, 900])
        self.assertEqual(line.lots(3), [1, 0, -1])

    def test_agreeing_to_one_trade_is_not_agreeing_to_another(self):
        calls = [*market(), trade(1, 2, 1, 2, 5, 8), trade(2, 2, 1, 2, 5, 8), agree(1, 1), agree(2, 2)]
        self.assertEqual(ask(*calls)[-2:], [[0], [0]])

    def test_the_run_begins_anew_only_when_both_have_agreed(self):
        line = Line(*market(), trade(1, 2, 1, 2, 5, 0), exercise(1, 2, 2), turn(100))
        line.ask(trade(1, 3, 3, 2, 4, 0), trade(2, 3, 3, 1, 1, 0), exercise(3, 3, 1), trade(3, 3, 3, 2, 2, 0))
        base = [0, 1, 1, 0, 2, 5, 0]
        self.assertEqual(line.run(3), base)
        line.ask(agree(3, 3))
        self.assertEqual(line.run(3), base)
        self.assertEqual(line.ask(agree(3, 2)), [[1]])
        self.assertEqual(line.run(3), [0, 1, 1, 0, 2, 3, 0])
        self.assertEqual(line.run(2), [2, 2, 5, 2])

    def test_one_side_agreeing_leaves_a_run_that_was_not_exercised_since_the_trade(self):
        line = Line(*market(), trade(1, 2, 1, 2, 5, 0), trade(2, 2, 3, 2, 5, 0), agree(1, 1))
        self.assertEqual(line.run(2), [0, 2, 10, 0])

    def test_it_stands_no_more(self):
        line = Line(*market(), trade(1, 2, 1, 2, 5, 8), give(1, BUYER, 3), agree(1, 1), agree(1, 2))
        self.assert_all_refused(line, [agree(1, 1), agree(1, 2), agree(1, 3), take(1), give(1, BUYER, 3)], -6)

    def test_after_a_take_nobody_has_agreed_and_the_taker_is_the_side(self):
        calls = [*market(4), trade(1, 2, 1, 2, 5, 8), agree(1, 1), give(1, SELLER, 3), take(1)]
        line = Line(*calls)
        self.assert_refused(line, agree(1, 2), -12)
        self.assertEqual(line.ask(agree(1, 3), agree(1, 1)), [[0], [1]])
        self.assertEqual(line.lots(2), [0, 0, 0, 0])
        self.assertEqual(line.house.cash, [0, 0, 0, 0])

    def test_an_agreement_stays_when_a_side_is_only_offered(self):
        calls = [*market(), trade(1, 2, 1, 2, 5, 8), agree(1, 1), give(1, BUYER, 3), agree(1, 2)]
        self.assertEqual(ask(*calls)[-1], [1])


class RefusalsTest(LineTest):
    def test_no_such_trade(self):
        line = Line(*market(), trade(1, 2, 1, 2, 5, 8))
        self.assert_all_refused(line, [agree(k, 1) for k in (-1, 0, 2, LEAST, MOST)], -6)

    def test_a_trade_of_an_earlier_turn(self):
        line = Line(*market(), trade(1, 2, 1, 2, 5, 8), agree(1, 1), turn(100))
        self.assert_all_refused(line, [agree(1, 1), agree(1, 2)], -6)

    def test_neither_buyer_nor_seller(self):
        line = Line(*market(), trade(1, 2, 1, 2, 5, 8), give(1, BUYER, 3))
        self.assert_all_refused(line, [agree(1, a) for a in (-1, 0, 3, 4, LEAST, MOST)], -12)

    def test_after_an_exercise(self):
        line = Line(*market(), trade(1, 2, 1, 2, 5, 8), agree(1, 1), exercise(1, 2, 1))
        self.assert_refused(line, agree(1, 1), -11, [turn(100)])
        self.assert_refused(line, agree(1, 2), -11, [turn(100)])
        self.assert_refused(line, agree(1, 3), -12)
        self.assert_refused(line, agree(2, 1), -6)

    def test_an_exercise_by_others_counts_too(self):
        line = Line(*market(4), trade(1, 2, 3, 4, 5, 8), trade(2, 2, 1, 2, 5, 8), exercise(3, 2, 1))
        self.assert_refused(line, agree(2, 1), -11)

    def test_only_exercises_of_the_same_contract_since_the_trade_count(self):
        line = Line(*market(), trade(1, 2, 1, 2, 5, 8), trade(2, 3, 1, 2, 5, 8), exercise(1, 2, 1),
                    trade(3, 2, 1, 2, 5, 8))
        self.assertEqual(line.ask(agree(2, 1), agree(2, 2), agree(3, 1), agree(3, 2)), [[0], [1], [0], [1]])
        self.assertEqual(line.lots(2), [4, -4, 0])
        self.assert_refused(line, agree(1, 1), -11)

    def test_a_refused_exercise_does_not_count(self):
        self.assertEqual(ask(*market(), trade(1, 2, 1, 2, 5, 8), exercise(1, 2, 6), agree(1, 1), agree(1, 2))[-2:],
                         [[0], [1]])

    def test_one_beyond_on_either_side(self):
        # Account 2 sells its bought lot on, so that taking the purchase back would leave it at -100001.
        line = Line(*piled(), trade(1, 2, 2, 3, 1, 0), trade(2, 2, 3, 2, 1, 0))
        self.assertEqual(line.lots(2), [100000, -100000, 0])
        self.assertEqual(line.ask(agree(1, 3)), [[0]])
        self.assert_refused(line, agree(1, 2), -7, [agree(1, 3), agree(2, 3), agree(2, 2), agree(1, 2)])
        # Account 1 buys back the lot that it sold: taking the sale back would leave it at 100001.
        line = Line(*piled(), trade(1, 2, 3, 1, 1, 0), trade(2, 2, 1, 3, 1, 0))
        self.assertEqual(line.ask(agree(1, 1)), [[0]])
        self.assert_refused(line, agree(1, 3), -7, [agree(2, 3), agree(2, 1), agree(1, 3)])

    def test_lots_do_not_matter_where_only_one_has_agreed(self):
        line = Line(*piled(), trade(1, 2, 2, 3, 1, 0), trade(2, 2, 3, 2, 1, 0))
        self.assertEqual(line.ask(agree(1, 2), agree(1, 2)), [[0], [0]])

    def test_exercised_since_is_told_before_too_many_lots(self):
        line = Line(*piled(n=4), trade(1, 2, 3, 1, 1, 0), trade(2, 2, 1, 3, 1, 0), trade(3, 2, 4, 3, 1, 0), agree(1, 1))
        self.assert_refused(line, agree(1, 3), -7)
        # The lot is assigned to account 2, so the lots of account 1 would still be too many.
        self.assertEqual(line.ask(exercise(4, 2, 1)), [[100, 2, 1]])
        self.assertEqual(line.lots(2)[0], 100000)
        self.assert_refused(line, agree(1, 3), -11)
