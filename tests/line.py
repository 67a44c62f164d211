"""Calls written by their names, and ways to ask them and to look at what the house keeps."""

import unittest

from houseturns.books import answer_calls, answers
from houseturns.house import House

FUTURE, CALL, PUT = 0, 1, 2
BUYER, SELLER = 0, 1
LEAST = -1000000000000000000
MOST = 1000000000000000000


def account():
    return [0]


def under(p):
    return [1, p]


def contract(kind, u, strike, multiple, expiry):
    return [2, kind, u, strike, multiple, expiry]


def trade(key, c, buyer, seller, lots, price):
    return [3, key, c, buyer, seller, lots, price]


def agree(key, a):
    return [4, key, a]


def give(key, side, taker):
    return [5, key, side, taker]


def take(key):
    return [6, key]


def exercise(a, c, n):
    return [7, a, c, n]


def turn(*prices):
    return [8, len(prices), *prices]


def position(a, c):
    return [9, a, c]


def positions(a):
    return [10, a]


def cash(a):
    return [11, a]


def run(c):
    return [12, c]


def would_assign(c, n):
    return [13, c, n]


def open_lots(c):
    return [14, c]


def trades():
    return [15]


def told():
    return [16]


def accounts(n):
    return [account() for _ in range(n)]


def joined(calls):
    return [number for call in calls for number in call]


def parted(numbers):
    parts = []
    at = 0
    while at < len(numbers):
        parts.append(numbers[at + 1:at + 1 + numbers[at]])
        at += 1 + numbers[at]
    return parts


def ask(*calls):
    """The answers of a new line, a list for each call."""
    return parted(answers(joined(calls)))


def kept(value):
    """All that an object keeps, as plain values; an object told twice is told whole twice."""
    if isinstance(value, (int, str)):
        return value
    if isinstance(value, list):
        return [kept(v) for v in value]
    if isinstance(value, dict):
        return [(k, kept(v)) for k, v in sorted(value.items())]
    return kept(vars(value))


class Line:
    """A line whose house can be looked at between its calls."""

    def __init__(self, *calls):
        self.house = House()
        self.calls = []
        self.answered = self.ask(*calls)

    def ask(self, *calls):
        self.calls.extend(calls)
        return parted(answer_calls(self.house, joined(calls)))

    def lots(self, c):
        held = self.house.contracts[c - 1].held
        return [held.get(a, 0) for a in range(1, len(self.house.cash) + 1)]

    def run(self, c):
        run = self.house.contracts[c - 1].run
        told = [run.count]
        for a in sorted(run.base):
            told.extend([a, run.base[a], run.assigned[a]])
        return told


class LineTest(unittest.TestCase):
    def assert_told(self, line, call, answer, after=()):
        """The call is answered so, and later calls answer as if it had not been called."""
        before = kept(line.house)
        calls = list(line.calls)
        self.assertEqual(parted(answer_calls(line.house, call)), [answer], call)
        self.assertEqual(kept(line.house), before, call)
        with_it = ask(*calls, call, *after)
        without = ask(*calls, *after)
        self.assertEqual(with_it[:len(calls)] + with_it[len(calls) + 1:], without, call)

    def assert_refused(self, line, call, refusal, after=()):
        """The call is refused with that number alone, and later calls answer as if it had not been called."""
        self.assert_told(line, call, [refusal], after)

    def assert_all_refused(self, line, calls, refusal):
        for call in calls:
            with self.subTest(call=call):
                self.assert_refused(line, call, refusal)
