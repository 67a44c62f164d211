"""The calls on trades: done, undone by both sides, given up and taken."""

from houseturns.house import FUTURE, Trade, goes_beyond, is_price
from houseturns.refusals import (
    ACCEPTED,
    CONTRACT_OVER,
    EXERCISED_SINCE,
    FULL,
    KEY_SPENT,
    NOTHING_OFFERED,
    NOT_A_SIDE,
    NO_TRADE,
    OUT_OF_RANGE,
    SAME_ACCOUNT,
    TOO_MANY_LOTS,
    UNKNOWN,
)
from houseturns.runs import run_begun_anew

MOST_KEY = 1000000000
MOST_LOTS = 1000
MOST_SPENT = 60
BUYER_SIDE = 0
SELLER_SIDE = 1


# The buyer's side has its lots above 0, the seller's below 0;
# so a side is taken back by doing it with the lots' sign turned round.
def do_side(house, contract, account, lots, price):
    gain = -price
    if contract.kind == FUTURE:
        gain = house.price_of(contract) - price
    house.move(contract, account, lots, lots * contract.multiple * gain)


def begin_run_anew(contract):
    contract.run = run_begun_anew(contract.held)


def exercised_since(deal):
    return deal.contract.exercised > deal.exercised_before


def trade_in_range(key, lots, price):
    return 1 <= key <= MOST_KEY and 1 <= lots <= MOST_LOTS and is_price(price)


def trade_refusal(house, key, c, buyer, seller, lots, price):
    if not trade_in_range(key, lots, price):
        return OUT_OF_RANGE
    if not (house.has_contract(c) and house.has_account(buyer) and house.has_account(seller)):
        return UNKNOWN
    contract = house.contracts[c - 1]
    if contract.over:
        return CONTRACT_OVER
    if buyer == seller:
        return SAME_ACCOUNT
    if key in house.spent:
        return KEY_SPENT
    if goes_beyond(contract, buyer, lots) or goes_beyond(contract, seller, -lots):
        return TOO_MANY_LOTS
    if len(house.spent) == MOST_SPENT:
        return FULL
    return ACCEPTED


def trade(house, key, c, buyer, seller, lots, price):
    refusal = trade_refusal(house, key, c, buyer, seller, lots, price)
    if refusal != ACCEPTED:
        return [refusal]
    contract = house.contracts[c - 1]
    do_side(house, contract, buyer, lots, price)
    do_side(house, contract, seller, -lots, price)
    house.trades[key] = Trade(contract, buyer, seller, lots, price)
    house.spent[key] = True
    begin_run_anew(contract)
    return [0]


def is_last_to_agree(deal, a):
    if a == deal.buyer:
        return deal.seller_agreed
    return deal.buyer_agreed


def agree_refusal(house, key, a):
    if key not in house.trades:
        return NO_TRADE
    deal = house.trades[key]
    if a != deal.buyer and a != deal.seller:
        return NOT_A_SIDE
    if exercised_since(deal):
        return EXERCISED_SINCE
    if not is_last_to_agree(deal, a):
        return ACCEPTED
    if goes_beyond(deal.contract, deal.buyer, -deal.lots) or goes_beyond(deal.contract, deal.seller, deal.lots):
        return TOO_MANY_LOTS
    return ACCEPTED


def undo(house, key):
    deal = house.trades.pop(key)
    do_side(house, deal.contract, deal.buyer, -deal.lots, deal.price)
    do_side(house, deal.contract, deal.seller, deal.lots, deal.price)
    begin_run_anew(deal.contract)


def agree(house, key, a):
    refusal = agree_refusal(house, key, a)
    if refusal != ACCEPTED:
        return [refusal]
    deal = house.trades[key]
    if is_last_to_agree(deal, a):
        undo(house, key)
        return [1]
    if a == deal.buyer:
        deal.buyer_agreed = True
    else:
        deal.seller_agreed = True
    return [0]


def give_refusal(house, key, side, taker):
    if side != BUYER_SIDE and side != SELLER_SIDE:
        return OUT_OF_RANGE
    if key not in house.trades:
        return NO_TRADE
    if not house.has_account(taker):
        return UNKNOWN
    deal = house.trades[key]
    if taker == deal.buyer or taker == deal.seller:
        return SAME_ACCOUNT
    return ACCEPTED


def give(house, key, side, taker):
    refusal = give_refusal(house, key, side, taker)
    if refusal != ACCEPTED:
        return [refusal]
    deal = house.trades[key]
    deal.offered_side = side
    deal.taker = taker
    return [0]


def offered_account(deal):
    if deal.offered_side == BUYER_SIDE:
        return deal.buyer
    return deal.seller


def offered_lots(deal):
    if deal.offered_side == BUYER_SIDE:
        return deal.lots
    return -deal.lots


def take_refusal(house, key):
    if key not in house.trades:
        return NO_TRADE
    deal = house.trades[key]
    if deal.taker == 0:
        return NOTHING_OFFERED
    if exercised_since(deal):
        return EXERCISED_SINCE
    lots = offered_lots(deal)
    if goes_beyond(deal.contract, offered_account(deal), -lots) or goes_beyond(deal.contract, deal.taker, lots):
        return TOO_MANY_LOTS
    return ACCEPTED


def hand_over(deal):
    if deal.offered_side == BUYER_SIDE:
        deal.buyer = deal.taker
    else:
        deal.seller = deal.taker
    deal.taker = 0
    deal.buyer_agreed = False
    deal.seller_agreed = False


def take(house, key):
    refusal = take_refusal(house, key)
    if refusal != ACCEPTED:
        return [refusal]
    deal = house.trades[key]
    lots = offered_lots(deal)
    do_side(house, deal.contract, offered_account(deal), -lots, deal.price)
    do_side(house, deal.contract, deal.taker, lots, deal.price)
    hand_over(deal)
    begin_run_anew(deal.contract)
    return [0]
