"""The calls on one new house, read from one list of whole numbers and answered in one."""

from houseturns.exercising import exercise
from houseturns.founding import new_account, new_contract, new_underlying
from houseturns.house import House
from houseturns.telling import (
    tell_cash,
    tell_house,
    tell_open_lots,
    tell_position,
    tell_positions,
    tell_run,
    tell_trades,
    tell_would_assign,
)
from houseturns.trading import agree, give, take, trade
from houseturns.turning import end_turn

ACCOUNT = 0
UNDER = 1
CONTRACT = 2
TRADE = 3
AGREE = 4
GIVE = 5
TAKE = 6
EXERCISE = 7
TURN = 8
POSITION = 9
POSITIONS = 10
CASH = 11
RUN = 12
WOULD_ASSIGN = 13
OPEN_LOTS = 14
TRADES = 15

# How many whole numbers each call has, by the call's number; a turn has none, but a row.
WIDTHS = (0, 1, 5, 6, 2, 3, 1, 3, 0, 2, 1, 1, 1, 2, 1, 0, 0)


def answer_change(house, number, row):
    if number == ACCOUNT:
        return new_account(house)
    if number == UNDER:
        return new_underlying(house, row[0])
    if number == CONTRACT:
        return new_contract(house, row[0], row[1], row[2], row[3], row[4])
    if number == TRADE:
        return trade(house, row[0], row[1], row[2], row[3], row[4], row[5])
    if number == AGREE:
        return agree(house, row[0], row[1])
    if number == GIVE:
        return give(house, row[0], row[1], row[2])
    if number == TAKE:
        return take(house, row[0])
    if number == EXERCISE:
        return exercise(house, row[0], row[1], row[2])
    return end_turn(house, row)


def answer_question(house, number, row):
    if number == POSITION:
        return tell_position(house, row[0], row[1])
    if number == POSITIONS:
        return tell_positions(house, row[0])
    if number == CASH:
        return tell_cash(house, row[0])
    if number == RUN:
        return tell_run(house, row[0])
    if number == WOULD_ASSIGN:
        return tell_would_assign(house, row[0], row[1])
    if number == OPEN_LOTS:
        return tell_open_lots(house, row[0])
    if number == TRADES:
        return tell_trades(house)
    return tell_house(house)


def answer_call(house, number, row):
    if number <= TURN:
        return answer_change(house, number, row)
    return answer_question(house, number, row)


def answer_calls(house, calls):
    told = []
    at = 0
    while at < len(calls):
        number = calls[at]
        start = at + 1
        if number == TURN:
            start = at + 2
            end = start + calls[at + 1]
        else:
            end = start + WIDTHS[number]
        answer = answer_call(house, number, calls[start:end])
        told.append(len(answer))
        told.extend(answer)
        at = end
    return told


def answers(calls):
    return answer_calls(House(), calls)
