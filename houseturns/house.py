"""What the house keeps: accounts, underlyings, contracts and the trades of this turn."""

from houseturns.runs import empty_run

FUTURE = 0
CALL = 1
PUT = 2

MOST_PRICE = 1000000
MOST_HELD = 100000


class Contract:
    def __init__(self, number, kind, underlying, strike, multiple, expiry):
        self.number = number
        self.kind = kind
        self.underlying = underlying
        self.strike = strike
        self.multiple = multiple
        self.expiry = expiry
        self.over = False
        self.held = {}
        self.run = empty_run()
        # Only ever grows, so that a trade can tell whether lots were exercised since it was done.
        self.exercised = 0

    def lots_of(self, account):
        return self.held.get(account, 0)


class Trade:
    def __init__(self, contract, buyer, seller, lots, price):
        self.contract = contract
        self.buyer = buyer
        self.seller = seller
        self.lots = lots
        self.price = price
        self.buyer_agreed = False
        self.seller_agreed = False
        # With no taker, 0, nothing is offered, and the side says nothing.
        self.taker = 0
        self.offered_side = 0
        self.exercised_before = contract.exercised


class House:
    def __init__(self):
        self.turn = 1
        self.prices = []
        self.contracts = []
        self.cash = []
        self.trades = {}
        self.spent = {}

    def has_account(self, a):
        return 1 <= a <= len(self.cash)

    def has_underlying(self, u):
        return 1 <= u <= len(self.prices)

    def has_contract(self, c):
        return 1 <= c <= len(self.contracts)

    def price_of(self, contract):
        return self.prices[contract.underlying - 1]

    # Lots and money move together: there are no lots without the money that belongs to them.
    def move(self, contract, account, lots, money):
        contract.held[account] = contract.lots_of(account) + lots
        self.cash[account - 1] += money


def is_price(p):
    return 0 <= p <= MOST_PRICE


def goes_beyond(contract, account, lots):
    return abs(contract.lots_of(account) + lots) > MOST_HELD


# Before the multiple.
def lot_pays(contract, price):
    if contract.kind == CALL:
        return max(price - contract.strike, 0)
    return max(contract.strike - price, 0)
