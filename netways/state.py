"""What a board keeps: its costs, its blocked cells, and the pins, ways and rips of its nets."""

from netways.grid import TO_LAYER, Grid

NETS = 32


class Board:

    def __init__(self):
        self.renew(8, 8, 2)

    # Lists by net have the net's number as index, so their place 0 is not used.
    def renew(self, columns, rows, layers):
        self.grid = Grid(columns, rows, layers)
        self.via = 4
        self.wrong = 2
        self.penalty = 8
        self.directions = [0] * layers
        self.blocked = [False] * self.grid.size
        self.pins = [[] for net in range(NETS + 1)]
        self.ways = [None] * (NETS + 1)
        self.rips = [0] * (NETS + 1)
        # No cell is ever of two nets, so one net a cell (0 for none) tells all.
        self.pin_nets = [0] * self.grid.size
        self.takers = [0] * self.grid.size

    # A net with one pin is laid by no ways at all, so an empty list is not None here.
    def is_laid(self, net):
        return self.ways[net] is not None

    def nets_with_pins(self):
        return [net for net in range(1, NETS + 1) if self.pins[net]]

    def laid_nets(self):
        return [net for net in range(1, NETS + 1) if self.is_laid(net)]

    def unlaid_nets(self):
        return [net for net in self.nets_with_pins() if not self.is_laid(net)]

    def is_held(self, cell):
        return self.pin_nets[cell] != 0 or self.takers[cell] != 0

    # A soft tree doesn't mind that other nets take a cell; their pins it does mind.
    def may_use_softly(self, net, cell):
        return not self.blocked[cell] and self.pin_nets[cell] in (0, net)

    def may_use(self, net, cell):
        return self.may_use_softly(net, cell) and self.takers[cell] in (0, net)

    def extra_cost(self, net, cell):
        taker = self.takers[cell]
        if taker in (0, net) or self.pin_nets[cell] == net:
            return 0
        return self.penalty * (1 + self.rips[taker])

    # Without anything extra. The cell is either end of the step.
    def step_cost(self, kind, cell):
        if kind == TO_LAYER:
            return self.via
        if self.directions[cell // self.grid.area] in (0, kind):
            return 1
        return self.wrong

    # By the costs and directions as they are now, which need not be those it was laid by.
    def ways_cost(self, net):
        cost = 0
        for way in self.ways[net]:
            for k in range(1, len(way)):
                cost += self.step_cost(self.grid.step_kind(way[k - 1], way[k]), way[k])
        return cost

    def total_cost(self):
        return sum([self.ways_cost(net) for net in self.laid_nets()])

    def set_blocked(self, cells, blocked):
        for cell in cells:
            self.blocked[cell] = blocked

    def add_pin(self, net, cells):
        self.pins[net].append(cells)
        for cell in cells:
            self.pin_nets[cell] = net

    def drop_pins(self, net):
        for cells in self.pins[net]:
            for cell in cells:
                self.pin_nets[cell] = 0
        self.pins[net] = []
        self.rips[net] = 0

    def lay(self, net, ways):
        self.ways[net] = ways
        for cell in self.grid.taken_cells(ways):
            self.takers[cell] = net

    # The rips stay as they are: only tries count them.
    def unlay(self, net):
        for cell in self.grid.taken_cells(self.ways[net]):
            self.takers[cell] = 0
        self.ways[net] = None

    def rip_for_another(self, net):
        self.unlay(net)
        self.rips[net] += 1

    def other_takers(self, net, ways):
        takers = [self.takers[cell] for cell in self.grid.taken_cells(ways)]
        return sorted(set([taker for taker in takers if taker not in (0, net)]))

    # All that tries change. Ways are never changed in place, so copies of the lists are enough.
    def laying(self):
        return (list(self.ways), list(self.rips), list(self.takers))

    def lay_again(self, laying):
        self.ways = list(laying[0])
        self.rips = list(laying[1])
        self.takers = list(laying[2])
