"""account, under, contract."""

from tests.line import (CALL, FUTURE, LEAST, MOST, PUT, Line, LineTest, account, accounts, ask, contract, trade, turn,
                        under)


class AccountTest(LineTest):
    def test_numbers_in_the_order_in_which_they_came(self):
        self.assertEqual(ask(*accounts(12)), [[n] for n in range(1, 13)])

    def test_twelve_and_no_more(self):
        line = Line(*accounts(12))
        self.assert_refused(line, account(), -8, [turn()])

    def test_cash_and_lots_are_0_at_first(self):
        line = Line(under(5), contract(FUTURE, 1, 0, 1, 1), account(), account())
        self.assertEqual(line.house.cash, [0, 0])
        self.assertEqual(line.lots(1), [0, 0])

    def test_an_account_that_comes_late_trades_in_contracts_there_are(self):
        line = Line(under(5), contract(CALL, 1, 0, 1, 1), account(), account(), trade(1, 1, 1, 2, 3, 1), account())
        self.assertEqual(line.ask(trade(2, 1, 3, 1, 2, 1), turn(10)), [[0], [2, 10, -30, 20]])


class UnderTest(LineTest):
    def test_numbers_in_the_order_in_which_they_came(self):
        self.assertEqual(ask(under(7), under(7), under(0), under(1000000)), [[1], [2], [3], [4]])

    def test_the_price_is_kept(self):
        self.assertEqual(Line(under(7), under(1000000), under(0)).house.prices, [7, 1000000, 0])

    def test_price_out_of_range(self):
        self.assert_all_refused(Line(), [under(p) for p in (-1, 1000001, LEAST, MOST)], -1)

    def test_four_and_no_more(self):
        line = Line(*[under(p) for p in range(4)])
        self.assert_refused(line, under(1), -8, [turn(1, 1, 1, 1)])

    def test_a_wrong_price_is_told_before_that_there_are_four(self):
        line = Line(*[under(p) for p in range(4)])
        self.assert_refused(line, under(-1), -1)
        self.assert_refused(line, under(1000001), -1)

    def test_a_refused_one_takes_no_number(self):
        self.assertEqual(ask(under(-1), under(3), under(1000001), under(4)), [[-1], [1], [-1], [2]])


class ContractTest(LineTest):
    def test_numbers_in_the_order_in_which_they_came(self):
        calls = [contract(kind, 1, 0, 1, 1) for kind in (FUTURE, CALL, PUT)]
        self.assertEqual(ask(under(1), *calls), [[1], [1], [2], [3]])

    def test_what_is_kept(self):
        line = Line(under(1), under(2), contract(PUT, 2, 30, 40, 50))
        kept = line.house.contracts[0]
        self.assertEqual([kept.kind, kept.underlying, kept.strike, kept.multiple, kept.expiry], [2, 2, 30, 40, 50])
        self.assertFalse(kept.over)
        self.assertEqual(line.run(1), [0])

    def test_edges_that_are_taken(self):
        line = Line(under(1))
        taken = [
            contract(CALL, 1, 0, 1, 1), contract(CALL, 1, 1000000, 1000, 1000000), contract(PUT, 1, 0, 1000, 1),
            contract(PUT, 1, 1000000, 1, 1000000), contract(FUTURE, 1, 0, 1, 1), contract(FUTURE, 1, 0, 1000, 1000000),
        ]
        self.assertEqual(line.ask(*taken), [[1], [2], [3], [4], [5], [6]])

    def test_out_of_range(self):
        line = Line(under(1))
        self.assert_all_refused(line, [contract(k, 1, 0, 1, 1) for k in (-1, 3, LEAST, MOST)], -1)
        self.assert_all_refused(line, [contract(CALL, 1, s, 1, 1) for s in (-1, 1000001, LEAST, MOST)], -1)
        self.assert_all_refused(line, [contract(CALL, 1, 0, m, 1) for m in (-1, 0, 1001, LEAST, MOST)], -1)
        self.assert_all_refused(line, [contract(CALL, 1, 0, 1, e) for e in (-1, 0, 1000001, LEAST, MOST)], -1)

    def test_no_such_underlying(self):
        line = Line(under(1), under(1))
        self.assert_all_refused(line, [contract(CALL, u, 0, 1, 1) for u in (-1, 0, 3, LEAST, MOST)], -2)
        self.assert_refused(Line(), contract(CALL, 1, 0, 1, 1), -2)

    def test_a_future_with_a_strike(self):
        line = Line(under(1))
        self.assert_all_refused(line, [contract(FUTURE, 1, s, 1, 1) for s in (1, 1000000)], -4)

    def test_expiry_and_the_present_turn(self):
        line = Line(under(1), turn(1), turn(1))
        for kind in (FUTURE, CALL, PUT):
            self.assert_refused(line, contract(kind, 1, 0, 1, 2), -4)
            self.assert_refused(line, contract(kind, 1, 0, 1, 1), -4)
        self.assertEqual(line.ask(contract(CALL, 1, 0, 1, 3), contract(FUTURE, 1, 0, 1, 4)), [[1], [2]])

    def test_twelve_and_no_more(self):
        line = Line(under(1))
        self.assertEqual(line.ask(*[contract(CALL, 1, 0, 1, 1)] * 12), [[n] for n in range(1, 13)])
        self.assert_refused(line, contract(CALL, 1, 0, 1, 1), -8, [turn(1)])

    def test_contracts_that_are_over_count_among_the_twelve(self):
        line = Line(under(1), *[contract(CALL, 1, 0, 1, 1)] * 12, turn(1))
        self.assert_refused(line, contract(CALL, 1, 0, 1, 2), -8)

    def test_order_of_the_refusals(self):
        full = Line(under(1), *[contract(CALL, 1, 0, 1, 1)] * 12, turn(1))
        self.assert_refused(full, contract(3, 2, 1, 1, 1), -1)
        self.assert_refused(full, contract(FUTURE, 2, 1000001, 1, 1), -1)
        self.assert_refused(full, contract(FUTURE, 2, 1, 0, 1), -1)
        self.assert_refused(full, contract(FUTURE, 2, 1, 1, 0), -1)
        self.assert_refused(full, contract(FUTURE, 2, 1, 1, 1), -2)
        self.assert_refused(full, contract(FUTURE, 1, 1, 1, 2), -4)
        self.assert_refused(full, contract(CALL, 1, 1, 1, 1), -4)
