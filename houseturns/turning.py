"""The call by which a turn ends and new prices hold."""

from houseturns.house import FUTURE, is_price, lot_pays
from houseturns.refusals import ACCEPTED, OUT_OF_RANGE, WRONG_PRICES
from houseturns.runs import empty_run


def turn_refusal(house, prices):
    for p in prices:
        if not is_price(p):
            return OUT_OF_RANGE
    if len(prices) != len(house.prices):
        return WRONG_PRICES
    return ACCEPTED


def expires_now(house, contract):
    return contract.expiry == house.turn


# What one lot gains, multiple and all; the house still has its old prices and its old turn.
def lot_gains(house, contract, prices):
    price = prices[contract.underlying - 1]
    if contract.kind == FUTURE:
        return contract.multiple * (price - house.price_of(contract))
    if expires_now(house, contract):
        return contract.multiple * lot_pays(contract, price)
    return 0


# Nobody has lots of a contract that is over, so it adds nothing here.
def growths(house, prices):
    grown = [0 for a in house.cash]
    for contract in house.contracts:
        gain = lot_gains(house, contract, prices)
        for account, lots in contract.held.items():
            grown[account - 1] += lots * gain
    return grown


def close_expired(house):
    for contract in house.contracts:
        if expires_now(house, contract):
            contract.over = True
            contract.held = {}
            contract.run = empty_run()


def end_turn(house, prices):
    refusal = turn_refusal(house, prices)
    if refusal != ACCEPTED:
        return [refusal]
    grown = growths(house, prices)
    house.cash = [cash + more for cash, more in zip(house.cash, grown)]
    close_expired(house)
    house.prices = list(prices)
    house.trades = {}
    house.spent = {}
    house.turn += 1
    return [house.turn] + grown
