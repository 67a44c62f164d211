"""The call by which options are exercised early."""

from houseturns.house import FUTURE, lot_pays
from houseturns.refusals import (
    ACCEPTED,
    CONTRACT_OVER,
    OUT_OF_RANGE,
    PAYS_NOTHING,
    TOO_FEW_LOTS,
    UNFIT,
    UNKNOWN,
)
from houseturns.runs import MOST_ASSIGNED, assign


def exercise_refusal(house, a, c, n):
    if not 1 <= n <= MOST_ASSIGNED:
        return OUT_OF_RANGE
    if not (house.has_account(a) and house.has_contract(c)):
        return UNKNOWN
    contract = house.contracts[c - 1]
    if contract.over:
        return CONTRACT_OVER
    if contract.kind == FUTURE:
        return UNFIT
    if contract.lots_of(a) < n:
        return TOO_FEW_LOTS
    if lot_pays(contract, house.price_of(contract)) == 0:
        return PAYS_NOTHING
    return ACCEPTED


def exercise(house, a, c, n):
    refusal = exercise_refusal(house, a, c, n)
    if refusal != ACCEPTED:
        return [refusal]
    contract = house.contracts[c - 1]
    pay = contract.multiple * lot_pays(contract, house.price_of(contract))
    house.move(contract, a, -n, n * pay)
    contract.exercised += n
    answer = [n * pay]
    got = assign(contract.run, n)
    for account, lots in got.items():
        house.move(contract, account, lots, -lots * pay)
        answer.append(account)
        answer.append(lots)
    return answer
