"""The calls that change a board: each answers a list of whole numbers, a refusal its number alone.

Refusals are looked for from the one nearest to 0 on, and before anything is changed.
"""

from netways.asks import ask_unlaid
from netways.refusals import BAD_COST, BAD_DIRECTION, BAD_LAYER, BAD_NET, BAD_SIZE, IS_LAID, NOT_TO_BE_HAD, NO_TREE
from netways.refusals import box_refusal, budget_refusal, is_net, pin_refusal, tree_refusal, ways_refusal
from netways.tries import firm_tree, improve_by_tries, lay_by_tree, make_tries

MOST_COLUMNS = 24
MOST_ROWS = 24
MOST_LAYERS = 4
MOST_COST = 1000


def begin(board, columns, rows, layers):
    if not (1 <= columns <= MOST_COLUMNS and 1 <= rows <= MOST_ROWS and 1 <= layers <= MOST_LAYERS):
        return [BAD_SIZE]
    board.renew(columns, rows, layers)
    return [0]


def costs(board, via, wrong, penalty):
    if not all([1 <= cost <= MOST_COST for cost in (via, wrong, penalty)]):
        return [BAD_COST]
    board.via = via
    board.wrong = wrong
    board.penalty = penalty
    return [0]


def prefer(board, layer, direction):
    if not 1 <= layer <= board.grid.layers:
        return [BAD_LAYER]
    if not 0 <= direction <= 2:
        return [BAD_DIRECTION]
    board.directions[layer - 1] = direction
    return [0]


def block(board, box):
    refusal = box_refusal(board, box)
    if refusal != 0:
        return [refusal]
    cells = board.grid.box_cells(box)
    if any([board.is_held(cell) for cell in cells]):
        return [NOT_TO_BE_HAD]
    board.set_blocked(cells, True)
    return [0]


def free(board, box):
    refusal = box_refusal(board, box)
    if refusal != 0:
        return [refusal]
    board.set_blocked(board.grid.box_cells(box), False)
    return [0]


def pin(board, net, box):
    refusal = pin_refusal(board, net, box)
    if refusal != 0:
        return [refusal]
    cells = board.grid.box_cells(box)
    if not all([board.may_use(net, cell) for cell in cells]):
        return [NOT_TO_BE_HAD]
    board.add_pin(net, cells)
    return [len(board.pins[net])]


def drop(board, net):
    if not is_net(net):
        return [BAD_NET]
    if board.is_laid(net):
        return [IS_LAID]
    had = len(board.pins[net])
    board.drop_pins(net)
    return [had]


def route(board, net):
    refusal = tree_refusal(board, net)
    if refusal != 0:
        return [refusal]
    tree = firm_tree(board, net)
    if tree is None:
        return [NO_TREE]
    board.lay(net, tree.ways)
    return [tree.cost]


def rip(board, net):
    refusal = ways_refusal(board, net)
    if refusal != 0:
        return [refusal]
    board.unlay(net)
    return [0]


def order(board, nets):
    if not all([is_net(net) for net in nets]):
        return [BAD_NET]
    for net in nets:
        if board.pins[net] and not board.is_laid(net):
            lay_by_tree(board, net)
    return ask_unlaid(board)


def auto(board, budget):
    refusal = budget_refusal(budget)
    if refusal != 0:
        return [refusal]
    made = make_tries(board, board.unlaid_nets(), budget)
    return [made] + ask_unlaid(board)


def improve(board, budget):
    refusal = budget_refusal(budget)
    if refusal != 0:
        return [refusal]
    stays = improve_by_tries(board, budget)
    return [1 if stays else 0] + ask_unlaid(board)
