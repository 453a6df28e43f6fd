"""The search of a tree: waves of costs over a ground, and ways back from the targets."""

from netways.ground import FAR


class Tree:

    def __init__(self):
        self.ways = []
        self.cost = 0


# The costs of cells, spread from what is reached. More may be reached behind a search: costs
# only become less by that, so the wave goes on from the new cells and nothing is begun anew.
class Wave:

    # fronts holds, by their cost, the cells that haven't been stepped from at that cost; a cell
    # whose cost has become less since stands there in vain.
    def __init__(self, ground):
        self.ground = ground
        self.costs = [FAR] * ground.grid.size
        self.fronts = {}

    def reach(self, cells):
        for cell in cells:
            if self.costs[cell] > 0:
                self.meet(cell, 0)

    def meet(self, cell, cost):
        self.costs[cell] = cost
        self.fronts.setdefault(cost, []).append(cell)

    # The wanted cell of least cost, of several the first in order; None if none has a cost.
    # The wave stops there: costs up to this one are right then, and those of farther cells
    # aren't asked for. The front stays, as other wanted cells may stand in it.
    def nearest_of(self, wanted):
        while self.fronts:
            cost = min(self.fronts)
            front = [cell for cell in self.fronts[cost] if self.costs[cell] == cost]
            met = [cell for cell in front if cell in wanted]
            if met:
                return min(met)
            self.fronts.pop(cost)
            for cell in front:
                self.step_from(cell)
        return None

    # Most near cells are no dearer already, so that is asked before anything else is called:
    # nearly all the time of a search goes by here.
    def step_from(self, cell):
        costs = self.costs
        enter = self.ground.enter
        cost = costs[cell]
        for near, kind in self.ground.grid.near[cell]:
            over = cost + enter[kind][near]
            if over < costs[near]:
                self.meet(near, over)

    def way_back(self, target):
        way = []
        cell = target
        while cell is not None:
            way.append(cell)
            cell = self.cell_before(cell)
        return way

    # None for a reached cell: every step costs at least 1, so nothing comes before a cost of 0.
    def cell_before(self, cell):
        for near, kind in self.ground.grid.near[cell]:
            if self.costs[near] + self.ground.enter[kind][cell] == self.costs[cell]:
                return near
        return None


# None if the pins can't be joined.
def find_tree(ground, pins):
    tree = Tree()
    wave = Wave(ground)
    wave.reach(pins[0])
    waiting = pins[1:]
    while waiting:
        target = wave.nearest_of(cells_of(waiting))
        if target is None:
            return None
        way = wave.way_back(target)
        tree.ways.append(way)
        tree.cost += wave.costs[target]
        wave.reach(ground.grid.taken_cells([way]))
        wave.reach(cells_of([cells for cells in waiting if target in cells]))
        waiting = [cells for cells in waiting if target not in cells]
    return tree


# A dict of True, because pins may overlap and cells are asked for with `in`.
def cells_of(pins):
    found = {}
    for cells in pins:
        for cell in cells:
            found[cell] = True
    return found


# The least sum of steps from a cell that the net may use to another; None if there's no row of steps.
def cost_between(ground, start, goal):
    wave = Wave(ground)
    wave.reach([start])
    if wave.nearest_of({goal: True}) is None:
        return None
    return wave.costs[goal]
