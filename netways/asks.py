"""The calls that only ask: each answers a list of whole numbers, and nothing changes."""

from netways.ground import firm_ground
from netways.refusals import NO_SUCH_WAY, NO_TREE, cost_refusal, spot_refusal, tree_refusal, ways_refusal
from netways.tree import cost_between
from netways.tries import soft_tree


def ask_soft(board, net):
    refusal = tree_refusal(board, net)
    if refusal != 0:
        return [refusal]
    tree = soft_tree(board, net)
    if tree is None:
        return [NO_TREE]
    return [tree.cost] + counted(board.other_takers(net, tree.ways))


def ask_cell(board, spot):
    refusal = spot_refusal(board, spot)
    if refusal != 0:
        return [refusal]
    cell = board.grid.cell_at(spot)
    if board.pin_nets[cell] != 0:
        return [2, board.pin_nets[cell]]
    if board.takers[cell] != 0:
        return [3, board.takers[cell]]
    if board.blocked[cell]:
        return [1, 0]
    return [0, 0]


def ask_way(board, net, number):
    refusal = ways_refusal(board, net)
    if refusal != 0:
        return [refusal]
    if not 1 <= number <= len(board.ways[net]):
        return [NO_SUCH_WAY]
    way = board.ways[net][number - 1]
    answer = [len(way)]
    for cell in way:
        answer.extend(board.grid.spot_of(cell))
    return answer


def ask_tree(board, net):
    refusal = ways_refusal(board, net)
    if refusal != 0:
        return [refusal]
    ways = board.ways[net]
    return [board.ways_cost(net), len(ways), len(board.grid.taken_cells(ways))]


# The ground minds only the cells that are stepped to, so both ends are looked at here.
def ask_cost(board, net, spots):
    refusal = cost_refusal(board, net, spots)
    if refusal != 0:
        return [refusal]
    ends = [board.grid.cell_at(spot) for spot in spots]
    if not all([board.may_use(net, cell) for cell in ends]):
        return [NO_TREE]
    cost = cost_between(firm_ground(board, net), ends[0], ends[1])
    if cost is None:
        return [NO_TREE]
    return [cost]


def ask_nets(board):
    nets = board.nets_with_pins()
    answer = [len(nets)]
    for net in nets:
        answer.extend([net, len(board.pins[net]), 1 if board.is_laid(net) else 0, board.rips[net]])
    return answer


def ask_unlaid(board):
    return counted(board.unlaid_nets())


def ask_total(board):
    return [len(board.laid_nets()), board.total_cost()]


def counted(numbers):
    return [len(numbers)] + numbers
