"""What every step costs one net, so that the search of a tree need not know about nets."""

from netways.grid import ALONG_X, ALONG_Y, TO_LAYER

# More than any row of steps can cost: it stands for the cost of what has none. A sum with it
# is no smaller, so that what isn't allowed needs no look of its own.
FAR = 1000000000000000000


class Ground:

    # extra is what each cell costs extra, FAR if the net may not use it.
    # enter[kind][cell] is the cost of a step of that kind to the cell, FAR or more if the step
    # isn't allowed. The cell stepped from isn't looked at: it has been stepped to before, or the
    # wave began there, so the net may use it anyway.
    def __init__(self, board, extra):
        self.grid = board.grid
        self.enter = (
            layer_changes(board, extra),
            steps_on_layers(board, extra, ALONG_X),
            steps_on_layers(board, extra, ALONG_Y),
        )


def steps_on_layers(board, extra, axis):
    area = board.grid.area
    costs = []
    for start in range(0, board.grid.size, area):
        step = board.step_cost(axis, start)
        costs.extend([step + more for more in extra[start:start + area]])
    return costs


# A step to another layer costs the same all over a place, because it takes the whole place.
def layer_changes(board, extra):
    area = board.grid.area
    costs = [board.step_cost(TO_LAYER, place) + sum(extra[place::area]) for place in range(area)]
    return costs * board.grid.layers


def firm_ground(board, net):
    return Ground(board, [0 if board.may_use(net, cell) else FAR for cell in range(board.grid.size)])


def soft_ground(board, net):
    return Ground(board, [soft_extra(board, net, cell) for cell in range(board.grid.size)])


def soft_extra(board, net, cell):
    if board.may_use_softly(net, cell):
        return board.extra_cost(net, cell)
    return FAR
