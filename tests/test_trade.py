"""trade: its sides, its key, its refusals."""

from tests.line import (CALL, FUTURE, LEAST, MOST, PUT, Line, LineTest, account, accounts, agree, ask, contract,
                        exercise, trade, turn, under)

BEYOND_KEY = (-1, 0, 1000000001, LEAST, MOST)
BEYOND_LOTS = (-1, 0, 1001, LEAST, MOST)
BEYOND_PRICE = (-1, 1000001, LEAST, MOST)


def market(n=3):
    """A future, a call and a put on an underlying that stands at 100, and some accounts."""
    return [under(100), contract(FUTURE, 1, 0, 10, 5), contract(CALL, 1, 90, 10, 5), contract(PUT, 1, 120, 10, 5),
            *accounts(n)]


def heap(c, buyer, seller, n, first=1):
    """Trades of 1000 lots each, n of them, with keys from first on."""
    return [trade(first + k, c, buyer, seller, 1000, 0) for k in range(n)]


def piled(buyer=1, seller=2, n=3):
    """The buyer has 100000 lots of the call, the seller -100000; the turn is 3 and no key is spent."""
    return [*market(n), *heap(2, buyer, seller, 50), turn(100), *heap(2, buyer, seller, 50), turn(100)]


class SidesTest(LineTest):
    def test_future_above_and_below_the_underlyings_price(self):
        line = Line(*market())
        self.assertEqual(line.ask(trade(1, 1, 1, 2, 7, 97)), [[0]])
        self.assertEqual(line.house.cash, [210, -210, 0])
        self.assertEqual(line.lots(1), [7, -7, 0])
        line.ask(trade(2, 1, 1, 3, 2, 104))
        self.assertEqual(line.house.cash, [130, -210, 80])
        self.assertEqual(line.lots(1), [9, -7, -2])

    def test_future_at_the_underlyings_price_moves_no_money(self):
        line = Line(*market(), trade(1, 1, 1, 2, 7, 100))
        self.assertEqual(line.house.cash, [0, 0, 0])
        self.assertEqual(line.lots(1), [7, -7, 0])

    def test_future_stands_at_the_underlyings_price_then(self):
        self.assertEqual(ask(*market(), trade(1, 1, 1, 2, 7, 97), turn(100), turn(103))[-2:],
                         [[2, 0, 0, 0], [3, 210, -210, 0]])

    def test_call_and_put(self):
        for c in (2, 3):
            line = Line(*market())
            self.assertEqual(line.ask(trade(1, c, 3, 1, 4, 25)), [[0]])
            self.assertEqual(line.house.cash, [1000, 0, -1000])
            self.assertEqual(line.lots(c), [-4, 0, 4])

    def test_multiples_1_and_1000(self):
        line = Line(under(1000000), contract(FUTURE, 1, 0, 1, 1), contract(PUT, 1, 1000000, 1000, 1), *accounts(2))
        self.assertEqual(line.ask(trade(1, 1, 1, 2, 1000, 0), trade(2, 2, 2, 1, 1000, 1000000)), [[0], [0]])
        self.assertEqual(line.house.cash, [1000000000 + 10 ** 12, -1000000000 - 10 ** 12])

    def test_sides_add_up_and_cancel_out(self):
        line = Line(*market(), trade(1, 2, 1, 2, 5, 10), trade(2, 2, 2, 1, 5, 12))
        self.assertEqual(line.lots(2), [0, 0, 0])
        self.assertEqual(line.house.cash, [100, -100, 0])

    def test_one_contract_leaves_the_others_alone(self):
        line = Line(*market(), trade(1, 2, 1, 2, 5, 10))
        self.assertEqual([line.lots(1), line.lots(3)], [[0, 0, 0], [0, 0, 0]])

    def test_the_run_begins_anew(self):
        line = Line(*market(), trade(1, 2, 1, 2, 5, 0), exercise(1, 2, 2))
        self.assertEqual(line.run(2), [2, 2, 5, 2])
        line.ask(trade(2, 2, 2, 3, 1, 0))
        self.assertEqual(line.run(2), [0, 2, 2, 0, 3, 1, 0])

    def test_the_run_of_another_contract_stays(self):
        line = Line(*market(), trade(1, 2, 1, 2, 5, 0), exercise(1, 2, 2), trade(2, 3, 2, 3, 1, 0))
        self.assertEqual(line.run(2), [2, 2, 5, 2])

    def test_the_trade_stands(self):
        line = Line(*market(), trade(9, 2, 1, 2, 5, 7))
        deal = line.house.trades[9]
        self.assertEqual([deal.buyer, deal.seller, deal.lots, deal.price, deal.taker], [1, 2, 5, 7, 0])
        self.assertFalse(deal.buyer_agreed or deal.seller_agreed)


class RefusalsTest(LineTest):
    def test_edges_that_are_taken(self):
        self.assertEqual(ask(*market(), trade(1, 2, 1, 2, 1, 0), trade(1000000000, 2, 1, 2, 1000, 1000000))[-2:],
                         [[0], [0]])

    def test_out_of_range(self):
        line = Line(*market())
        self.assert_all_refused(line, [trade(k, 2, 1, 2, 1, 1) for k in BEYOND_KEY], -1)
        self.assert_all_refused(line, [trade(1, 2, 1, 2, n, 1) for n in BEYOND_LOTS], -1)
        self.assert_all_refused(line, [trade(1, 2, 1, 2, 1, p) for p in BEYOND_PRICE], -1)

    def test_unknown(self):
        line = Line(*market())
        for wrong in (-1, 0, 4, LEAST, MOST):
            self.assert_refused(line, trade(1, wrong, 1, 2, 1, 1), -2)
            self.assert_refused(line, trade(1, 2, wrong, 2, 1, 1), -2)
            self.assert_refused(line, trade(1, 2, 1, wrong, 1, 1), -2)

    def test_over(self):
        line = Line(under(1), contract(CALL, 1, 0, 1, 2), contract(FUTURE, 1, 0, 1, 3), *accounts(2), turn(1))
        self.assertEqual(line.ask(trade(1, 1, 1, 2, 1, 1), turn(1)), [[0], [3, 1, -1]])
        self.assert_refused(line, trade(1, 1, 1, 2, 1, 1), -3)
        self.assertEqual(line.ask(trade(1, 2, 1, 2, 1, 1), turn(1)), [[0], [4, 0, 0]])
        self.assert_refused(line, trade(1, 2, 1, 2, 1, 1), -3)

    def test_the_same_account(self):
        self.assert_refused(Line(*market()), trade(1, 2, 1, 1, 1, 1), -10, [turn(100)])

    def test_a_spent_key(self):
        line = Line(*market(), trade(1, 2, 1, 2, 1, 1))
        self.assert_refused(line, trade(1, 2, 1, 2, 1, 1), -5, [turn(100)])
        self.assert_refused(line, trade(1, 3, 3, 2, 1, 1), -5, [turn(100)])

    def test_a_key_of_an_undone_trade_is_spent(self):
        line = Line(*market(), trade(1, 2, 1, 2, 1, 1), agree(1, 1), agree(1, 2))
        self.assert_refused(line, trade(1, 2, 1, 2, 1, 1), -5)

    def test_a_key_of_a_refused_trade_is_not_spent(self):
        self.assertEqual(ask(*market(), trade(1, 2, 1, 1, 1, 1), trade(1, 2, 1, 2, 1, 1))[-2:], [[-10], [0]])

    def test_no_key_is_spent_after_a_turns_end(self):
        calls = [*market(), trade(1, 2, 1, 2, 1, 1), trade(2, 2, 1, 2, 1, 1), agree(2, 1), agree(2, 2), turn(100)]
        self.assertEqual(ask(*calls, trade(1, 2, 1, 2, 1, 1), trade(2, 2, 1, 2, 1, 1))[-2:], [[0], [0]])

    def test_sixty_keys(self):
        line = Line(*market())
        self.assertEqual(line.ask(*heap(2, 1, 2, 60)), [[0]] * 60)
        self.assert_refused(line, trade(61, 2, 1, 2, 1, 1), -8, [turn(100)])
        self.assertEqual(line.ask(turn(100), trade(61, 2, 1, 2, 1, 1))[-1], [0])

    def test_keys_of_undone_trades_count_among_the_sixty(self):
        line = Line(*market(), *heap(2, 1, 2, 60), agree(7, 1), agree(7, 2))
        self.assertEqual(line.answered[-1], [1])
        self.assert_refused(line, trade(61, 2, 1, 2, 1, 1), -8)

    def test_a_hundred_thousand_lots_and_one_beyond(self):
        line = Line(*piled())
        self.assertEqual(line.lots(2), [100000, -100000, 0])
        self.assert_refused(line, trade(1, 2, 1, 2, 1, 1), -7, [turn(100)])
        self.assert_refused(line, trade(1, 2, 1, 3, 1, 1), -7, [turn(100)])
        self.assert_refused(line, trade(1, 2, 3, 2, 1, 1), -7, [turn(100)])

    def test_just_up_to_a_hundred_thousand(self):
        line = Line(*piled(), trade(1, 2, 2, 1, 1, 0))
        self.assert_refused(line, trade(2, 2, 1, 2, 2, 0), -7)
        self.assertEqual(line.ask(trade(2, 2, 1, 2, 1, 0)), [[0]])
        self.assertEqual(line.lots(2), [100000, -100000, 0])

    def test_lots_of_another_contract_do_not_count(self):
        line = Line(*piled())
        self.assertEqual(line.ask(trade(1, 3, 1, 2, 1000, 1)), [[0]])

    def test_order_of_the_refusals(self):
        over = [under(100), contract(CALL, 1, 0, 1, 1), *market(3)[2:], turn(100)]
        line = Line(*over, trade(5, 2, 1, 2, 1, 1))
        self.assert_refused(line, trade(0, 9, 1, 1, 1, 1), -1)
        self.assert_refused(line, trade(1, 9, 1, 1, 0, 1), -1)
        self.assert_refused(line, trade(1, 9, 1, 1, 1, -1), -1)
        self.assert_refused(line, trade(5, 1, 9, 9, 1, 1), -2)
        self.assert_refused(line, trade(5, 1, 1, 1, 1, 1), -3)
        self.assert_refused(line, trade(5, 1, 1, 2, 1, 1), -3)
        self.assert_refused(line, trade(5, 2, 1, 1, 1, 1), -10)

    def test_order_of_the_late_refusals(self):
        spent = [trade(k, 3, 1, 2, 1, 1) for k in range(1, 61)]
        line = Line(*piled(), *spent)
        self.assert_refused(line, trade(1, 2, 1, 1, 1, 1), -10)
        self.assert_refused(line, trade(1, 2, 1, 2, 1, 1), -5)
        self.assert_refused(line, trade(61, 2, 1, 2, 1, 1), -7)
        self.assert_refused(line, trade(61, 3, 1, 2, 1, 1), -8)

    def test_same_account_is_told_before_too_many_lots(self):
        self.assert_refused(Line(*piled()), trade(1, 2, 1, 1, 1, 1), -10)

    def test_a_new_account_can_be_a_side(self):
        line = Line(*market(1))
        self.assert_refused(line, trade(1, 2, 1, 2, 1, 1), -2, [account(), trade(1, 2, 1, 2, 1, 1)])
