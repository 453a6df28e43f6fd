"""Nets laid by their trees, and tries: nets that are in the way are ripped and tried again."""

from netways.ground import firm_ground, soft_ground
from netways.tree import find_tree


def firm_tree(board, net):
    return find_tree(firm_ground(board, net), board.pins[net])


def soft_tree(board, net):
    return find_tree(soft_ground(board, net), board.pins[net])


# Whether the net could be laid.
def lay_by_tree(board, net):
    tree = firm_tree(board, net)
    if tree is None:
        return False
    board.lay(net, tree.ways)
    return True


# The others that were ripped for the net, in order.
def lay_by_soft_tree(board, net):
    tree = soft_tree(board, net)
    if tree is None:
        return []
    others = board.other_takers(net, tree.ways)
    for other in others:
        board.rip_for_another(other)
    board.lay(net, tree.ways)
    return others


# How many tries were made. Each takes one net from the row, so that number is also where the
# row now begins.
def make_tries(board, nets, budget):
    row = list(nets)
    made = 0
    while made < budget and made < len(row):
        net = row[made]
        made += 1
        if not lay_by_tree(board, net):
            row.extend(lay_by_soft_tree(board, net))
    return made


# Whether the board stays as the tries left it.
def improve_by_tries(board, budget):
    before = board.laying()
    cost = board.total_cost()
    unlaid = board.unlaid_nets()
    laid = board.laid_nets()
    for net in laid:
        board.unlay(net)
    make_tries(board, unlaid + laid, budget)
    left = len(board.unlaid_nets())
    if left < len(unlaid) or (left == len(unlaid) and board.total_cost() <= cost):
        return True
    board.lay_again(before)
    return False
