"""The calls that tell what is kept, and change nothing."""

from houseturns.refusals import ACCEPTED, OUT_OF_RANGE, TOO_FEW_LOTS, UNKNOWN
from houseturns.runs import MOST_ASSIGNED, would_be_assigned
from houseturns.trading import BUYER_SIDE

NOTHING_IS_OFFERED = 0
BUYER_IS_OFFERED = 1
SELLER_IS_OFFERED = 2


# What is told is a whole number, never True or False.
def as_number(holds):
    if holds:
        return 1
    return 0


def tell_position(house, a, c):
    if not (house.has_account(a) and house.has_contract(c)):
        return [UNKNOWN]
    return [0, house.contracts[c - 1].lots_of(a)]


def lots_that_are_not_0(house, a):
    held = []
    for contract in house.contracts:
        lots = contract.lots_of(a)
        if lots != 0:
            held.append((contract.number, lots))
    return held


def tell_positions(house, a):
    if not house.has_account(a):
        return [UNKNOWN]
    answer = [0]
    for c, lots in lots_that_are_not_0(house, a):
        answer.extend([c, lots])
    return answer


def tell_cash(house, a):
    if not house.has_account(a):
        return [UNKNOWN]
    return [0, house.cash[a - 1]]


def tell_run(house, c):
    if not house.has_contract(c):
        return [UNKNOWN]
    run = house.contracts[c - 1].run
    answer = [run.count]
    for account, lots in run.base.items():
        answer.extend([account, lots, run.assigned[account]])
    return answer


def would_assign_refusal(house, c, n):
    if not 1 <= n <= MOST_ASSIGNED:
        return OUT_OF_RANGE
    if not house.has_contract(c):
        return UNKNOWN
    run = house.contracts[c - 1].run
    if run.count + n > run.total:
        return TOO_FEW_LOTS
    return ACCEPTED


def tell_would_assign(house, c, n):
    refusal = would_assign_refusal(house, c, n)
    if refusal != ACCEPTED:
        return [refusal]
    answer = [0]
    got = would_be_assigned(house.contracts[c - 1].run, n)
    for account, lots in got.items():
        answer.extend([account, lots])
    return answer


def tell_open_lots(house, c):
    if not house.has_contract(c):
        return [UNKNOWN]
    short = 0
    for lots in house.contracts[c - 1].held.values():
        if lots < 0:
            short -= lots
    return [short]


def offer_told(deal):
    if deal.taker == 0:
        return [NOTHING_IS_OFFERED, 0]
    if deal.offered_side == BUYER_SIDE:
        return [BUYER_IS_OFFERED, deal.taker]
    return [SELLER_IS_OFFERED, deal.taker]


def trade_told(key, deal):
    sides = [key, deal.contract.number, deal.buyer, deal.seller, deal.lots, deal.price]
    return sides + [as_number(deal.buyer_agreed), as_number(deal.seller_agreed)] + offer_told(deal)


def tell_trades(house):
    answer = [0]
    for key in sorted(house.trades):
        answer.extend(trade_told(key, house.trades[key]))
    return answer


def contract_told(contract):
    terms = [contract.kind, contract.underlying, contract.strike, contract.multiple, contract.expiry]
    return terms + [as_number(contract.over)]


def tell_house(house):
    answer = [house.turn, len(house.prices)] + house.prices
    answer.append(len(house.contracts))
    for contract in house.contracts:
        answer.extend(contract_told(contract))
    answer.append(len(house.cash))
    answer.extend(house.cash)
    for a in range(1, len(house.cash) + 1):
        for c, lots in lots_that_are_not_0(house, a):
            answer.extend([a, c, lots])
    return answer
