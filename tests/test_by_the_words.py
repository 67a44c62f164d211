"""Whole lines that mix all calls, answered a second time straight by the document's words."""

import unittest
from random import Random

from houseturns.books import answers
from tests.line import LEAST, MOST, joined, parted
from tests.test_exercise import chosen_by_the_words

NAMES = ("account under contract trade agree give take exercise turn "
         "position positions cash run would_assign open_lots trades told").split()
FIRST_THAT_TELLS = NAMES.index("position")
WEIGHTS = (3, 2, 4, 22, 9, 6, 6, 14, 2) + (4,) * 8
REFUSALS = {
    "account": [-8], "under": [-1, -8], "contract": [-1, -2, -4, -8], "trade": [-1, -2, -3, -5, -7, -8, -10],
    "agree": [-6, -11, -12], "give": [-1, -2, -6, -10], "take": [-6, -11, -13], "exercise": [-1, -2, -3, -4, -9, -14],
    "turn": [-1, -15], "position": [-2], "positions": [-2], "cash": [-2], "run": [-2], "would_assign": [-1, -2, -9],
    "open_lots": [-2],
}


class Refused(Exception):
    pass


def refuse(number, holds):
    if holds:
        raise Refused(number)


class Words:
    """Keeps every move of lots and money since the line's beginning, and adds them up whenever it is asked."""

    def __init__(self):
        self.now = 1
        self.prices = []
        self.terms = []
        self.size = 0
        self.moves = []
        self.gone = set()
        self.deals = {}
        self.spent = set()
        self.exercised = []
        self.runs = {}

    def answer(self, call):
        name = NAMES[call[0]]
        try:
            return getattr(self, name)(*([call[2:]] if name == "turn" else call[1:]))
        except Refused as refused:
            return [refused.args[0]]

    def all_accounts(self):
        return range(1, self.size + 1)

    def all_contracts(self):
        return range(1, len(self.terms) + 1)

    def lots(self, a, c):
        return 0 if c in self.gone else sum(lots for b, d, lots, _ in self.moves if b == a and d == c)

    def money(self, a):
        return sum(money for b, _, _, money in self.moves if b == a)

    def price(self, c):
        return self.prices[self.terms[c - 1][1] - 1]

    def pays(self, c, p):
        kind, _, strike, _, _ = self.terms[c - 1]
        return max(0, p - strike if kind == 1 else strike - p)

    def do(self, deal, which, who, times):
        kind, _, _, multiple, _ = self.terms[deal["c"] - 1]
        lots = times * deal["lots"] * (1, -1)[which]
        worth = self.price(deal["c"]) - deal["price"] if kind == 0 else -deal["price"]
        self.moves.append((who, deal["c"], lots, lots * multiple * worth))

    def beyond(self, c, changes):
        return any(abs(self.lots(a, c) + lots) > 100000 for a, lots in changes)

    def begin_anew(self, c):
        self.runs[c] = ({a: -self.lots(a, c) for a in self.all_accounts() if self.lots(a, c) < 0}, [])

    def following(self, c, n):
        base, before = self.runs[c]
        assigned = {a: before.count(a) for a in base}
        got = []
        for k in range(n):
            got.append(chosen_by_the_words(base, assigned, len(before) + k))
            assigned[got[-1]] += 1
        return got

    def counted(self, got):
        return [number for a in sorted(set(got)) for number in (a, got.count(a))]

    def account(self):
        refuse(-8, self.size == 12)
        self.size += 1
        return [self.size]

    def under(self, p):
        refuse(-1, not 0 <= p <= 1000000)
        refuse(-8, len(self.prices) == 4)
        self.prices.append(p)
        return [len(self.prices)]

    def contract(self, kind, u, strike, multiple, expiry):
        refuse(-1, kind not in (0, 1, 2) or not 0 <= strike <= 1000000)
        refuse(-1, not 1 <= multiple <= 1000 or not 1 <= expiry <= 1000000)
        refuse(-2, not 1 <= u <= len(self.prices))
        refuse(-4, kind == 0 and strike != 0)
        refuse(-4, expiry < self.now)
        refuse(-8, len(self.terms) == 12)
        self.terms.append((kind, u, strike, multiple, expiry))
        self.runs[len(self.terms)] = ({}, [])
        return [len(self.terms)]

    def trade(self, key, c, buyer, seller, lots, price):
        refuse(-1, not 1 <= key <= 1000000000 or not 1 <= lots <= 1000 or not 0 <= price <= 1000000)
        refuse(-2, c not in self.all_contracts())
        refuse(-2, buyer not in self.all_accounts() or seller not in self.all_accounts())
        refuse(-3, c in self.gone)
        refuse(-10, buyer == seller)
        refuse(-5, key in self.spent)
        refuse(-7, self.beyond(c, [(buyer, lots), (seller, -lots)]))
        refuse(-8, len(self.spent) == 60)
        deal = {"c": c, "sides": [buyer, seller], "lots": lots, "price": price, "agreed": [0, 0], "offer": (0, 0),
                "done": len(self.exercised)}
        for which in (0, 1):
            self.do(deal, which, deal["sides"][which], 1)
        self.deals[key] = deal
        self.spent.add(key)
        self.begin_anew(c)
        return [0]

    def agree(self, key, a):
        refuse(-6, key not in self.deals)
        deal = self.deals[key]
        refuse(-12, a not in deal["sides"])
        refuse(-11, deal["c"] in self.exercised[deal["done"]:])
        agreed = list(deal["agreed"])
        agreed[deal["sides"].index(a)] = 1
        if agreed == [1, 1]:
            buyer, seller = deal["sides"]
            refuse(-7, self.beyond(deal["c"], [(buyer, -deal["lots"]), (seller, deal["lots"])]))
            for which in (0, 1):
                self.do(deal, which, deal["sides"][which], -1)
            self.deals = {k: other for k, other in self.deals.items() if k != key}
            self.begin_anew(deal["c"])
            return [1]
        deal["agreed"] = agreed
        return [0]

    def give(self, key, side, taker):
        refuse(-1, side not in (0, 1))
        refuse(-6, key not in self.deals)
        refuse(-2, taker not in self.all_accounts())
        refuse(-10, taker in self.deals[key]["sides"])
        self.deals[key]["offer"] = (side + 1, taker)
        return [0]

    def take(self, key):
        refuse(-6, key not in self.deals)
        deal = self.deals[key]
        which, taker = deal["offer"][0] - 1, deal["offer"][1]
        refuse(-13, which == -1)
        refuse(-11, deal["c"] in self.exercised[deal["done"]:])
        giver = deal["sides"][which]
        lots = deal["lots"] * (1, -1)[which]
        refuse(-7, self.beyond(deal["c"], [(giver, -lots), (taker, lots)]))
        self.do(deal, which, giver, -1)
        self.do(deal, which, taker, 1)
        deal["sides"][which] = taker
        deal["offer"] = (0, 0)
        deal["agreed"] = [0, 0]
        self.begin_anew(deal["c"])
        return [0]

    def exercise(self, a, c, n):
        refuse(-1, not 1 <= n <= 1000)
        refuse(-2, a not in self.all_accounts() or c not in self.all_contracts())
        refuse(-3, c in self.gone)
        refuse(-4, self.terms[c - 1][0] == 0)
        refuse(-9, self.lots(a, c) < n)
        pay = self.terms[c - 1][3] * self.pays(c, self.price(c))
        refuse(-14, pay == 0)
        got = self.following(c, n)
        self.moves.append((a, c, -n, n * pay))
        self.moves.extend((b, c, 1, -pay) for b in got)
        self.runs[c][1].extend(got)
        self.exercised.append(c)
        return [n * pay, *self.counted(got)]

    def turn(self, prices):
        refuse(-1, any(not 0 <= p <= 1000000 for p in prices))
        refuse(-15, len(prices) != len(self.prices))
        before = [self.money(a) for a in self.all_accounts()]
        for c in self.all_contracts():
            kind, u, _, multiple, expiry = self.terms[c - 1]
            more = prices[u - 1] - self.prices[u - 1] if kind == 0 else 0
            if kind != 0 and expiry == self.now:
                more = self.pays(c, prices[u - 1])
            self.moves.extend([(a, c, 0, self.lots(a, c) * multiple * more) for a in self.all_accounts()])
        for c in self.all_contracts():
            if self.terms[c - 1][4] == self.now:
                self.gone.add(c)
                self.runs[c] = ({}, [])
        self.prices = list(prices)
        self.deals = {}
        self.spent = set()
        self.now += 1
        return [self.now, *[self.money(a) - before[a - 1] for a in self.all_accounts()]]

    def position(self, a, c):
        refuse(-2, a not in self.all_accounts() or c not in self.all_contracts())
        return [0, self.lots(a, c)]

    def positions(self, a):
        refuse(-2, a not in self.all_accounts())
        return [0, *[number for c in self.all_contracts() if self.lots(a, c) for number in (c, self.lots(a, c))]]

    def cash(self, a):
        refuse(-2, a not in self.all_accounts())
        return [0, self.money(a)]

    def run(self, c):
        refuse(-2, c not in self.all_contracts())
        base, got = self.runs[c]
        return [len(got), *[number for a in sorted(base) for number in (a, base[a], got.count(a))]]

    def would_assign(self, c, n):
        refuse(-1, not 1 <= n <= 1000)
        refuse(-2, c not in self.all_contracts())
        base, got = self.runs[c]
        refuse(-9, len(got) + n > sum(base.values()))
        return [0, *self.counted(self.following(c, n))]

    def open_lots(self, c):
        refuse(-2, c not in self.all_contracts())
        return [-sum(min(0, self.lots(a, c)) for a in self.all_accounts())]

    def trades(self):
        told = [0]
        for key, deal in sorted(self.deals.items(), key=lambda pair: pair[0]):
            told += [key, deal["c"], *deal["sides"], deal["lots"], deal["price"], *deal["agreed"], *deal["offer"]]
        return told

    def told(self):
        told = [self.now, len(self.prices), *self.prices, len(self.terms)]
        for c in self.all_contracts():
            told += [*self.terms[c - 1], int(c in self.gone)]
        told += [self.size, *[self.money(a) for a in self.all_accounts()]]
        for a in self.all_accounts():
            for c in self.all_contracts():
                if self.lots(a, c):
                    told += [a, c, self.lots(a, c)]
        return told


class Drawer:
    """Draws calls that mostly fit what is there, and now and then a number just outside or at the ends."""

    def __init__(self, seed, words):
        self.source = Random(seed)
        self.words = words
        # In a heavy line one pair of accounts piles up lots, and the keys run out.
        self.heavy = seed % 5 == 4

    def one_of(self, lowest, highest):
        if highest < lowest or self.source.random() < 0.03:
            return self.source.choice([-1, 0, lowest - 1, highest + 1, LEAST, MOST])
        return self.source.randint(lowest, highest)

    def an_account(self):
        return self.one_of(1, self.words.size)

    def a_contract(self):
        going_on = [c for c in self.words.all_contracts() if c not in self.words.gone]
        if going_on and self.source.random() < 0.85:
            return self.source.choice(going_on)
        return self.one_of(1, len(self.words.terms))

    def a_key(self, offered=False):
        standing = [key for key, deal in self.words.deals.items() if deal["offer"][1] or not offered]
        if standing and self.source.random() < 0.9:
            return self.source.choice(standing)
        return self.one_of(1, 30)

    def a_price(self):
        return self.source.choice([0, 30, 50, 55, 90, 1000000]) if self.source.random() < 0.98 else self.one_of(1, 0)

    def a_trade(self):
        if self.heavy and self.source.random() < 0.9:
            return [self.source.randint(1, 400), 1, 1, 2, 1000, 0]
        return [self.one_of(1, 200), self.a_contract(), self.an_account(), self.an_account(),
                self.source.choice([1, 2, 5, 9, self.one_of(1, 1000)]), self.a_price()]

    def an_exercise(self):
        c = self.a_contract()
        long = [a for a in self.words.all_accounts() if self.words.lots(a, c) > 0]
        if long and self.source.random() < 0.8:
            a = self.source.choice(long)
            return [a, c, self.source.randint(1, min(self.words.lots(a, c), 20))]
        return [self.an_account(), c, self.one_of(1, 1000)]

    def some_prices(self):
        wide = len(self.words.prices)
        if self.source.random() < 0.2:
            wide = self.source.randint(0, 4)
        return [self.a_price() for _ in range(wide)]

    def numbers(self, name):
        source = self.source
        if name == "contract":
            kind = self.one_of(0, 2)
            strike = 0 if kind == 0 and source.random() < 0.9 else self.a_price()
            return [kind, self.one_of(1, len(self.words.prices)), strike, self.one_of(1, 1000),
                    self.one_of(self.words.now - 1, self.words.now + 4)]
        if name == "trade":
            return self.a_trade()
        if name == "exercise":
            return self.an_exercise()
        if name == "agree":
            key = self.a_key()
            sides = self.words.deals[key]["sides"] if key in self.words.deals else [1]
            return [key, source.choice([*sides, *sides, self.an_account()])]
        if name == "turn":
            prices = self.some_prices()
            return [len(prices), *prices]
        some = {
            "account": [], "under": [self.a_price()], "give": [self.a_key(), self.one_of(0, 1), self.an_account()],
            "take": [self.a_key(source.random() < 0.7)],
            "position": [self.an_account(), self.a_contract()], "positions": [self.an_account()],
            "cash": [self.an_account()], "run": [self.a_contract()],
            "would_assign": [self.a_contract(), self.one_of(1, 1000) if source.random() < 0.2 else self.one_of(1, 9)],
            "open_lots": [self.a_contract()], "trades": [], "told": [],
        }
        return some[name]

    def call(self):
        weights = list(WEIGHTS)
        if self.heavy:
            weights[3] = 300
        number = self.source.choices(range(17), weights)[0]
        return [number, *self.numbers(NAMES[number])]


def beginning():
    return [[1, 50], *[[0]] * 4, [2, 1, 1, 40, 10, 6], [2, 2, 1, 60, 1, 3], [2, 0, 1, 0, 10, 5]]


def drawn_line(seed, length):
    """A line of so many calls, and what the words answer."""
    words = Words()
    drawer = Drawer(seed, words)
    calls = beginning() if seed % 3 else []
    told = [words.answer(call) for call in calls]
    while len(calls) < length:
        calls.append(drawer.call())
        told.append(words.answer(calls[-1]))
    return calls[:length], told[:length]


def lines():
    return [drawn_line(seed, (400, 400, 399, 250, 1 + seed)[seed % 7 % 5]) for seed in range(40)]


class ByTheWordsTest(unittest.TestCase):
    @classmethod
    def setUpClass(cls):
        cls.lines = lines()

    def test_whole_lines(self):
        for seed, (calls, told) in enumerate(self.lines):
            for at, (call, mine, theirs) in enumerate(zip(calls, parted(answers(joined(calls))), told, strict=True)):
                self.assertEqual(mine, theirs, (seed, at, NAMES[call[0]], call))

    def test_the_list_stays_and_is_answered_the_same_again(self):
        for calls, _ in self.lines:
            numbers = joined(calls)
            before = list(numbers)
            first = answers(numbers)
            self.assertEqual(numbers, before)
            self.assertEqual(answers(numbers), first)
            self.assertEqual({type(number) for number in first}, {int})

    def test_without_the_calls_that_tell_the_others_answer_the_same(self):
        for calls, told in self.lines:
            without = [call for call in calls if call[0] < FIRST_THAT_TELLS]
            expected = [answer for call, answer in zip(calls, told) if call[0] < FIRST_THAT_TELLS]
            self.assertEqual(parted(answers(joined(without))), expected)

    def test_the_lines_come_by_what_can_be_answered(self):
        seen = {(NAMES[call[0]], answer[0]) for calls, told in self.lines for call, answer in zip(calls, told)}
        for name, refusals in REFUSALS.items():
            for refusal in refusals:
                self.assertIn((name, refusal), seen)
        self.assertLessEqual({("agree", 0), ("agree", 1), ("take", 0), ("give", 0)}, seen)
        for name in ("run", "would_assign", "trades", "told", "positions", "exercise"):
            longest = max(len(answer) for calls, told in self.lines for call, answer in zip(calls, told)
                          if NAMES[call[0]] == name)
            self.assertGreater(longest, 6, name)

    def test_a_line_of_four_hundred_calls_is_among_them(self):
        self.assertEqual(max(len(calls) for calls, _ in self.lines), 400)
        self.assertLessEqual(max(len(joined(calls)) for calls, _ in self.lines), 16000)
