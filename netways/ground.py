"""What every step costs one net, so that the search of a tree need not know about nets."""

from netways.grid import ALONG_X, ALONG_Y

# More than any row of steps can cost: it stands for the cost of what has none.
FAR = 1000000000000000000


class Ground:

    # enter[kind][cell] is the cost of a step of that kind to the cell, FAR if the step isn't
    # allowed. The cell stepped from isn't looked at: it has been stepped to before, or is a
    # pin's of the net, so the net may use it anyway.
    def __init__(self, board, usable, extra):
        self.grid = board.grid
        self.enter = (
            layer_changes(board, usable, extra),
            steps_on_layers(board, usable, extra, ALONG_X),
            steps_on_layers(board, usable, extra, ALONG_Y),
        )


def steps_on_layers(board, usable, extra, axis):
    costs = []
    for cell in range(board.grid.size):
        step = FAR
        if usable[cell]:
            direction = board.directions[cell // board.grid.area]
            step = extra[cell] + (1 if direction in (0, axis) else board.wrong)
        costs.append(step)
    return costs


# A step to another layer costs the same all over a place, because it takes the whole place.
def layer_changes(board, usable, extra):
    costs = []
    for place in range(board.grid.area):
        cells = board.grid.place_cells(place)
        step = FAR
        if all([usable[cell] for cell in cells]):
            step = board.via + sum([extra[cell] for cell in cells])
        costs.append(step)
    return costs * board.grid.layers


def firm_ground(board, net):
    size = board.grid.size
    usable = [board.may_use(net, cell) for cell in range(size)]
    return Ground(board, usable, [0] * size)


def soft_ground(board, net):
    size = board.grid.size
    usable = [board.may_use_softly(net, cell) for cell in range(size)]
    extra = [board.extra_cost(net, cell) for cell in range(size)]
    return Ground(board, usable, extra)
