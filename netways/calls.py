"""The calls on a board: each answers a list of whole numbers, a refusal its number alone.

Refusals are looked for from the one nearest to 0 on, and before anything is changed.
"""

from netways.ground import firm_ground, soft_ground
from netways.refusals import BAD_COST, BAD_DIRECTION, BAD_LAYER, BAD_NET, BAD_SIZE, BAD_SPOT
from netways.refusals import IS_LAID, NOT_LAID, NOT_TO_BE_HAD, NO_PINS, NO_TREE, PINS_FULL
from netways.state import NETS
from netways.tree import find_tree

MOST_COLUMNS = 24
MOST_ROWS = 24
MOST_LAYERS = 4
MOST_COST = 1000
MOST_PINS = 16


def begin(board, columns, rows, layers):
    if not (1 <= columns <= MOST_COLUMNS and 1 <= rows <= MOST_ROWS and 1 <= layers <= MOST_LAYERS):
        return [BAD_SIZE]
    board.renew(columns, rows, layers)
    return [0]


def costs(board, via, wrong, penalty):
    if not all([1 <= cost <= MOST_COST for cost in (via, wrong, penalty)]):
        return [BAD_COST]
    board.via = via
    board.wrong = wrong
    board.penalty = penalty
    return [0]


def prefer(board, layer, direction):
    if not 1 <= layer <= board.grid.layers:
        return [BAD_LAYER]
    if not 0 <= direction <= 2:
        return [BAD_DIRECTION]
    board.directions[layer - 1] = direction
    return [0]


def block(board, box):
    refusal = box_refusal(board, box)
    if refusal != 0:
        return [refusal]
    cells = board.grid.box_cells(box)
    if any([board.is_held(cell) for cell in cells]):
        return [NOT_TO_BE_HAD]
    board.set_blocked(cells, True)
    return [0]


def free(board, box):
    refusal = box_refusal(board, box)
    if refusal != 0:
        return [refusal]
    board.set_blocked(board.grid.box_cells(box), False)
    return [0]


def pin(board, net, box):
    refusal = pin_refusal(board, net, box)
    if refusal != 0:
        return [refusal]
    cells = board.grid.box_cells(box)
    if not all([board.may_use(net, cell) for cell in cells]):
        return [NOT_TO_BE_HAD]
    board.add_pin(net, cells)
    return [len(board.pins[net])]


def drop(board, net):
    if not is_net(net):
        return [BAD_NET]
    if board.is_laid(net):
        return [IS_LAID]
    had = len(board.pins[net])
    board.drop_pins(net)
    return [had]


def route(board, net):
    refusal = tree_refusal(board, net)
    if refusal != 0:
        return [refusal]
    tree = find_tree(firm_ground(board, net), board.pins[net])
    if tree is None:
        return [NO_TREE]
    board.lay(net, tree.ways)
    return [tree.cost]


def rip(board, net):
    if not is_net(net):
        return [BAD_NET]
    if not board.is_laid(net):
        return [NOT_LAID]
    board.unlay(net)
    return [0]


def soft(board, net):
    refusal = tree_refusal(board, net)
    if refusal != 0:
        return [refusal]
    tree = find_tree(soft_ground(board, net), board.pins[net])
    if tree is None:
        return [NO_TREE]
    others = board.other_takers(net, tree.ways)
    return [tree.cost, len(others)] + others


def is_net(net):
    return 1 <= net <= NETS


# The refusals below are 0 where none is due.
def box_refusal(board, box):
    if not 0 <= box[0] <= board.grid.layers:
        return BAD_LAYER
    if not board.grid.holds_box(box):
        return BAD_SPOT
    return 0


# A bad net stands between a box's two refusals, a bad layer and a bad spot.
def pin_refusal(board, net, box):
    refusal = box_refusal(board, box)
    if refusal == BAD_LAYER:
        return BAD_LAYER
    if not is_net(net):
        return BAD_NET
    if refusal != 0:
        return refusal
    if board.is_laid(net):
        return IS_LAID
    if len(board.pins[net]) == MOST_PINS:
        return PINS_FULL
    return 0


def tree_refusal(board, net):
    if not is_net(net):
        return BAD_NET
    if board.is_laid(net):
        return IS_LAID
    if not board.pins[net]:
        return NO_PINS
    return 0
