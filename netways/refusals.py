"""The numbers that calls are refused by, as the document lists them, and where they are due.

The functions answer 0 where no refusal is due, and of several the one nearest to 0.
"""

from netways.state import NETS

BAD_SIZE = -1
BAD_COST = -2
BAD_LAYER = -3
BAD_DIRECTION = -4
BAD_NET = -5
BAD_SPOT = -6
IS_LAID = -7
NOT_LAID = -8
NO_PINS = -9
PINS_FULL = -10
NOT_TO_BE_HAD = -11
BAD_BUDGET = -12
NO_SUCH_WAY = -13
NO_TREE = -14

MOST_PINS = 16
MOST_TRIES = 1000


def is_net(net):
    return 1 <= net <= NETS


def box_refusal(board, box):
    if not 0 <= box[0] <= board.grid.layers:
        return BAD_LAYER
    if not board.grid.holds_box(box):
        return BAD_SPOT
    return 0


# A bad net stands between a box's two refusals, a bad layer and a bad spot.
def pin_refusal(board, net, box):
    refusal = box_refusal(board, box)
    if refusal == BAD_LAYER:
        return BAD_LAYER
    if not is_net(net):
        return BAD_NET
    if refusal != 0:
        return refusal
    if board.is_laid(net):
        return IS_LAID
    if len(board.pins[net]) == MOST_PINS:
        return PINS_FULL
    return 0


def tree_refusal(board, net):
    if not is_net(net):
        return BAD_NET
    if board.is_laid(net):
        return IS_LAID
    if not board.pins[net]:
        return NO_PINS
    return 0


def ways_refusal(board, net):
    if not is_net(net):
        return BAD_NET
    if not board.is_laid(net):
        return NOT_LAID
    return 0


def budget_refusal(budget):
    if not 0 <= budget <= MOST_TRIES:
        return BAD_BUDGET
    return 0


# A spot is the list of a cell's layer, x and y. No cell is on layer 0: only a box is told so.
def spot_refusal(board, spot):
    if not 1 <= spot[0] <= board.grid.layers:
        return BAD_LAYER
    if not board.grid.holds_box(spot + spot[1:]):
        return BAD_SPOT
    return 0


def cost_refusal(board, net, spots):
    refusals = [spot_refusal(board, spot) for spot in spots]
    if BAD_LAYER in refusals:
        return BAD_LAYER
    if not is_net(net):
        return BAD_NET
    if BAD_SPOT in refusals:
        return BAD_SPOT
    return 0
