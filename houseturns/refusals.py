"""The numbers with which calls are refused, and the one that says that nothing refuses a call."""

ACCEPTED = 0
OUT_OF_RANGE = -1
UNKNOWN = -2
CONTRACT_OVER = -3
UNFIT = -4
KEY_SPENT = -5
NO_TRADE = -6
TOO_MANY_LOTS = -7
FULL = -8
TOO_FEW_LOTS = -9
SAME_ACCOUNT = -10
EXERCISED_SINCE = -11
NOT_A_SIDE = -12
NOTHING_OFFERED = -13
PAYS_NOTHING = -14
WRONG_PRICES = -15
