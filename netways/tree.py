"""The search of a tree: waves of costs over a ground, and ways back from the targets."""

from netways.ground import FAR


class Tree:

    def __init__(self):
        self.ways = []
        self.cost = 0


# None if the pins can't be joined.
def find_tree(ground, pins):
    tree = Tree()
    reached = cells_of(pins[:1])
    waiting = pins[1:]
    while waiting:
        wanted = cells_of(waiting)
        costs = spread(ground, reached, wanted)
        target = nearest(costs, wanted)
        if target is None:
            return None
        way = way_back(ground, costs, target)
        tree.ways.append(way)
        tree.cost += costs[target]
        held = [cells for cells in waiting if target in cells]
        reached.update(cells_of([ground.grid.taken_cells([way])] + held))
        waiting = [cells for cells in waiting if target not in cells]
    return tree


# A dict of True, because pins may overlap and cells are asked for with `in`.
def cells_of(pins):
    found = {}
    for cells in pins:
        for cell in cells:
            found[cell] = True
    return found


# The cost of each cell. The wave stops where it meets the first wanted cells: costs up to
# theirs are right then, and those of farther cells aren't asked for.
def spread(ground, reached, wanted):
    costs = [FAR] * ground.grid.size
    for cell in reached:
        costs[cell] = 0
    fronts = {0: list(reached)}
    while fronts:
        cost = min(fronts)
        met = fronts.pop(cost)
        # A cell that was met again at less cost has been stepped from already.
        front = [cell for cell in met if costs[cell] == cost]
        if any([cell in wanted for cell in front]):
            return costs
        for cell in front:
            step_from(ground, costs, fronts, cell)
    return costs


def step_from(ground, costs, fronts, cell):
    cost = costs[cell]
    enter = ground.enter
    for near, kind in ground.grid.near[cell]:
        over = cost + enter[kind][near]
        if over < costs[near]:
            costs[near] = over
            fronts.setdefault(over, []).append(near)


def nearest(costs, wanted):
    least = min([costs[cell] for cell in wanted])
    if least == FAR:
        return None
    return min([cell for cell in wanted if costs[cell] == least])


def way_back(ground, costs, target):
    way = []
    cell = target
    while cell is not None:
        way.append(cell)
        cell = cell_before(ground, costs, cell)
    return way


# None for a reached cell: every step costs at least 1, so nothing comes before a cost of 0.
def cell_before(ground, costs, cell):
    for near, kind in ground.grid.near[cell]:
        if costs[near] + ground.enter[kind][cell] == costs[cell]:
            return near
    return None
