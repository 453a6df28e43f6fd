"""The numbers that calls are refused by, as the document lists them."""

BAD_SIZE = -1
BAD_COST = -2
BAD_LAYER = -3
BAD_DIRECTION = -4
BAD_NET = -5
BAD_SPOT = -6
IS_LAID = -7
NOT_LAID = -8
NO_PINS = -9
PINS_FULL = -10
NOT_TO_BE_HAD = -11
NO_TREE = -14
