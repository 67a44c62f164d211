"""The calls by which accounts, underlyings and contracts come to be."""

from houseturns.house import CALL, FUTURE, PUT, Contract, is_price
from houseturns.refusals import ACCEPTED, FULL, OUT_OF_RANGE, UNFIT, UNKNOWN

MOST_ACCOUNTS = 12
MOST_UNDERLYINGS = 4
MOST_CONTRACTS = 12
MOST_MULTIPLE = 1000
MOST_EXPIRY = 1000000


def new_account(house):
    if len(house.cash) == MOST_ACCOUNTS:
        return [FULL]
    house.cash.append(0)
    return [len(house.cash)]


def new_underlying(house, p):
    if not is_price(p):
        return [OUT_OF_RANGE]
    if len(house.prices) == MOST_UNDERLYINGS:
        return [FULL]
    house.prices.append(p)
    return [len(house.prices)]


def contract_in_range(kind, strike, multiple, expiry):
    if kind not in (FUTURE, CALL, PUT):
        return False
    return is_price(strike) and 1 <= multiple <= MOST_MULTIPLE and 1 <= expiry <= MOST_EXPIRY


def contract_refusal(house, kind, u, strike, multiple, expiry):
    if not contract_in_range(kind, strike, multiple, expiry):
        return OUT_OF_RANGE
    if not house.has_underlying(u):
        return UNKNOWN
    if (kind == FUTURE and strike != 0) or expiry < house.turn:
        return UNFIT
    if len(house.contracts) == MOST_CONTRACTS:
        return FULL
    return ACCEPTED


def new_contract(house, kind, u, strike, multiple, expiry):
    refusal = contract_refusal(house, kind, u, strike, multiple, expiry)
    if refusal != ACCEPTED:
        return [refusal]
    number = len(house.contracts) + 1
    house.contracts.append(Contract(number, kind, u, strike, multiple, expiry))
    return [number]
