"""Many lines drawn from a fixed source: what holds after every call of every line."""

from random import Random

from tests.line import (Line, LineTest, account, agree, ask, contract, exercise, give, kept, take, trade, turn, under)

LINES = 150
CALLS = 120


def drawn_call(source, line):
    house = line.house
    a = source.randint(0, len(house.cash) + 1) if source.random() < 0.05 else source.randint(1, max(1, len(house.cash)))
    b = source.randint(1, max(1, len(house.cash)))
    c = source.randint(0 if source.random() < 0.05 else 1, max(1, len(house.contracts)))
    key = source.randint(1, 12)
    which = source.choices(range(9), (2, 1, 3, 20, 10, 6, 6, 12, 2))[0]
    if which == 0:
        return account()
    if which == 1:
        return under(source.choice([-1, 0, 50, 100, 1000000, 1000001]))
    if which == 2:
        kind = source.randint(0, 2)
        strike = 0 if kind == 0 and source.random() < 0.9 else source.choice([0, 40, 60, 1000000])
        return contract(kind, source.randint(1, 2), strike, source.choice([0, 1, 10]),
                        house.turn + source.randint(-1, 3))
    if which == 3:
        return trade(key, c, a, b, source.choice([0, 1, 2, 5, 9]), source.choice([0, 40, 55, 70]))
    if which == 4:
        return agree(key, a)
    if which == 5:
        return give(key, source.choice([0, 1, 1, 0, 2]), a)
    if which == 6:
        return take(key)
    if which == 7:
        return exercise(a, c, source.choice([0, 1, 1, 2, 3, 8]))
    wide = len(house.prices) + source.choice([0, 0, 0, 0, 1])
    return turn(*[source.choice([30, 50, 55, 90]) for _ in range(min(wide, 4))])


def drawn_line(seed):
    source = Random(seed)
    line = Line(*[account()] * 4, under(50), contract(1, 1, 40, 10, 4), contract(2, 1, 60, 1, 3),
                contract(0, 1, 0, 10, 5))
    return source, line


class WholeLinesTest(LineTest):
    def assert_books_balance(self, line):
        house = line.house
        self.assertEqual(sum(house.cash), 0)
        for c in house.contracts:
            self.assertEqual(sum(c.held.values()), 0)
            # What is still to be assigned of a run is just what the accounts are short now.
            left = {a: c.run.base[a] - c.run.assigned[a] for a in c.run.base}
            self.assertEqual({a: n for a, n in left.items() if n}, {a: -n for a, n in c.held.items() if n < 0})
            self.assertEqual(c.run.count, sum(c.run.assigned.values()))
            total = sum(c.run.base.values())
            for a, lots in c.run.base.items():
                self.assertTrue(c.run.count == 0 or abs(c.run.assigned[a] * total - c.run.count * lots) < total)

    def test_the_books_balance_after_every_call_and_refusals_change_nothing(self):
        refusals = set()
        answered = set()
        for seed in range(LINES):
            source, line = drawn_line(seed)
            told = list(line.answered)
            taken = list(line.calls)
            for _ in range(CALLS):
                call = drawn_call(source, line)
                before = kept(line.house)
                answer = line.ask(call)[0]
                if answer[0] < 0:
                    self.assertEqual(len(answer), 1)
                    self.assertEqual(kept(line.house), before)
                    refusals.add((call[0], answer[0]))
                else:
                    told.append(answer)
                    taken.append(call)
                    answered.add((call[0], answer[0] if call[0] == 4 else 0))
                self.assert_books_balance(line)
            self.assertEqual(ask(*taken), told)
        # The lines are worth something only if they come by nearly all that can be answered.
        self.assertEqual(answered, {(n, 0) for n in range(9)} | {(4, 1)})
        for some in ((3, -3), (3, -5), (3, -10), (4, -11), (4, -12), (5, -10), (6, -11), (6, -13), (7, -9), (7, -14)):
            self.assertIn(some, refusals)
