"""The program beside a second one that follows the document's words as slowly as they are told."""

import collections
import random
import unittest

from netways.board import answers_on
from netways.state import Board
from tests.helper import split, told


class Words:

    def __init__(self):
        self.begin(8, 8, 2)

    def begin(self, w, h, l):
        if not (1 <= w <= 24 and 1 <= h <= 24 and 1 <= l <= 4):
            return [-1]
        self.w, self.h, self.l = w, h, l
        self.via, self.wrong, self.penalty = 4, 2, 8
        self.direction = {layer: 0 for layer in range(1, l + 1)}
        self.blocked = set()
        self.pins = {net: [] for net in range(1, 33)}
        self.ways = {}
        self.rips = {net: 0 for net in range(1, 33)}
        return [0]

    def costs(self, via, wrong, penalty):
        if not all(1 <= cost <= 1000 for cost in (via, wrong, penalty)):
            return [-2]
        self.via, self.wrong, self.penalty = via, wrong, penalty
        return [0]

    def prefer(self, layer, direction):
        refusals = set()
        if not 1 <= layer <= self.l:
            refusals.add(-3)
        if direction not in (0, 1, 2):
            refusals.add(-4)
        if refusals:
            return [max(refusals)]
        self.direction[layer] = direction
        return [0]

    def block(self, *box):
        refusals = self.of_box(box)
        if not refusals and any(self.is_pins(cell) or self.is_taken(cell) for cell in self.box(box)):
            refusals.add(-11)
        if refusals:
            return [max(refusals)]
        self.blocked |= set(self.box(box))
        return [0]

    def free(self, *box):
        refusals = self.of_box(box)
        if refusals:
            return [max(refusals)]
        self.blocked -= set(self.box(box))
        return [0]

    def pin(self, net, *box):
        refusals = self.of_box(box) | self.of_net(net)
        if net in self.ways:
            refusals.add(-7)
        if len(self.pins.get(net, [])) == 16:
            refusals.add(-10)
        if not refusals and not all(self.may_use(net, cell) for cell in self.box(box)):
            refusals.add(-11)
        if refusals:
            return [max(refusals)]
        self.pins[net].append(self.box(box))
        return [len(self.pins[net])]

    def drop(self, net):
        refusals = self.of_net(net)
        if net in self.ways:
            refusals.add(-7)
        if refusals:
            return [max(refusals)]
        had = len(self.pins[net])
        self.pins[net] = []
        self.rips[net] = 0
        return [had]

    def route(self, net):
        refusals = self.of_tree(net)
        tree = None if refusals else self.tree(net, False)
        if tree is None:
            return [max(refusals | {-14})]
        self.ways[net] = tree[1]
        return [tree[0]]

    def rip(self, net):
        refusals = self.of_net(net)
        if net not in self.ways:
            refusals.add(-8)
        if refusals:
            return [max(refusals)]
        self.ways.pop(net)
        return [0]

    def soft(self, net):
        refusals = self.of_tree(net)
        tree = None if refusals else self.tree(net, True)
        if tree is None:
            return [max(refusals | {-14})]
        takes = self.takes(tree[1])
        others = [m for m in sorted(self.ways) if m != net and self.takes(self.ways[m]) & takes]
        return [tree[0], len(others)] + others

    def order(self, *nets):
        refusals = set().union(*[self.of_net(net) for net in nets])
        if refusals:
            return [max(refusals)]
        for net in nets:
            if self.pins[net] and net not in self.ways:
                tree = self.tree(net, False)
                if tree is not None:
                    self.ways[net] = tree[1]
        return self.unlaid()

    def auto(self, budget):
        if not 0 <= budget <= 1000:
            return [-12]
        return [self.tries(self.unlaid()[1:], budget)] + self.unlaid()

    def improve(self, budget):
        if not 0 <= budget <= 1000:
            return [-12]
        ways, rips, unlaid, before = dict(self.ways), dict(self.rips), self.unlaid()[1:], self.total()[1]
        self.ways = {}
        self.tries(unlaid + sorted(ways), budget)
        now = self.unlaid()[0]
        stays = now < len(unlaid) or now == len(unlaid) and not self.total()[1] > before
        if not stays:
            self.ways, self.rips = ways, rips
        return [int(stays)] + self.unlaid()

    def tries(self, row, budget):
        made = 0
        while row and budget > 0:
            net = row.pop(0)
            budget -= 1
            made += 1
            tree = self.tree(net, False)
            if tree is not None:
                self.ways[net] = tree[1]
                continue
            tree = self.tree(net, True)
            if tree is not None:
                takes = self.takes(tree[1])
                others = [m for m in sorted(self.ways) if m != net and self.takes(self.ways[m]) & takes]
                for other in others:
                    del self.ways[other]
                    self.rips[other] += 1
                self.ways[net] = tree[1]
                row.extend(others)
        return made

    def cell(self, layer, x, y):
        refusals = self.of_cell(layer, x, y)
        if refusals:
            return [max(refusals)]
        for net in self.pins:
            if any((layer, x, y) in box for box in self.pins[net]):
                return [2, net]
        for net in self.ways:
            if (layer, x, y) in self.takes(self.ways[net]):
                return [3, net]
        return [1, 0] if (layer, x, y) in self.blocked else [0, 0]

    def way(self, net, k):
        refusals = self.of_net(net)
        if net not in self.ways:
            refusals.add(-8)
        if not 1 <= k <= len(self.ways.get(net, [])):
            refusals.add(-13)
        if refusals:
            return [max(refusals)]
        way = self.ways[net][k - 1]
        return [len(way)] + [number for cell in way for number in cell]

    def tree_of(self, net):
        refusals = self.of_net(net)
        if net not in self.ways:
            refusals.add(-8)
        if refusals:
            return [max(refusals)]
        ways = self.ways[net]
        cost = sum(self.plain(v, u) for way in ways for v, u in zip(way, way[1:]))
        return [cost, len(ways), len(self.takes(ways))]

    def cost(self, net, *ends):
        start, goal = ends[:3], ends[3:]
        refusals = self.of_net(net) | self.of_cell(*start) | self.of_cell(*goal)
        if refusals:
            return [max(refusals)]
        if not self.may_use(net, start) or not self.may_use(net, goal):
            return [-14]
        return [self.spread(self.steps(net, False), {start}).get(goal, -14)]

    def nets(self):
        row = [net for net in range(1, 33) if self.pins[net]]
        told = [(net, len(self.pins[net]), int(net in self.ways), self.rips[net]) for net in row]
        return [len(row)] + [number for four in told for number in four]

    def unlaid(self):
        row = [net for net in range(1, 33) if self.pins[net] and net not in self.ways]
        return [len(row)] + row

    def total(self):
        return [len(self.ways), sum(self.tree_of(net)[0] for net in self.ways)]

    def of_net(self, net):
        return set() if 1 <= net <= 32 else {-5}

    def of_cell(self, layer, x, y):
        refusals = set()
        if not 1 <= layer <= self.l:
            refusals.add(-3)
        if not (0 <= x <= self.w - 1 and 0 <= y <= self.h - 1):
            refusals.add(-6)
        return refusals

    def of_box(self, box):
        layer, x1, y1, x2, y2 = box
        refusals = set()
        if not 0 <= layer <= self.l:
            refusals.add(-3)
        if not (0 <= x1 <= x2 <= self.w - 1 and 0 <= y1 <= y2 <= self.h - 1):
            refusals.add(-6)
        return refusals

    def of_tree(self, net):
        refusals = self.of_net(net)
        if net in self.ways:
            refusals.add(-7)
        if not self.pins.get(net):
            refusals.add(-9)
        return refusals

    def cells(self):
        return [(z, x, y) for z in range(1, self.l + 1) for y in range(self.h) for x in range(self.w)]

    def box(self, box):
        layer, x1, y1, x2, y2 = box
        return [(z, x, y) for z, x, y in self.cells() if layer in (0, z) and x1 <= x <= x2 and y1 <= y <= y2]

    def near(self, cell):
        z, x, y = cell
        row = [(z, x - 1, y), (z, x + 1, y), (z, x, y - 1), (z, x, y + 1), (z - 1, x, y), (z + 1, x, y)]
        return [(c, a, b) for c, a, b in row if 1 <= c <= self.l and 0 <= a < self.w and 0 <= b < self.h]

    def place(self, cell):
        return [(z, cell[1], cell[2]) for z in range(1, self.l + 1)]

    def takes(self, ways):
        taken = set()
        for way in ways:
            taken |= set(way)
            for a, b in zip(way, way[1:]):
                if a[0] != b[0]:
                    taken |= set(self.place(a))
        return taken

    def is_pins(self, cell, but=0):
        return any(cell in box for net in self.pins if net != but for box in self.pins[net])

    def is_taken(self, cell, but=0):
        return any(cell in self.takes(self.ways[net]) for net in self.ways if net != but)

    def may_use(self, net, cell, soft=False):
        if cell in self.blocked or self.is_pins(cell, net):
            return False
        return soft or not self.is_taken(cell, net)

    def extra(self, net, cell):
        if any(cell in box for box in self.pins[net]):
            return 0
        takers = [m for m in self.ways if m != net and cell in self.takes(self.ways[m])]
        return sum(self.penalty * (1 + self.rips[m]) for m in takers)

    def plain(self, v, u):
        """What a step costs without anything extra."""
        if v[0] != u[0]:
            return self.via
        bad = 1 if v[1] == u[1] else 2
        return self.wrong if self.direction[u[0]] == bad else 1

    def steps(self, net, soft):
        """What each allowed step costs."""
        may = {cell: self.may_use(net, cell, soft) for cell in self.cells()}
        extra = {cell: self.extra(net, cell) if soft else 0 for cell in self.cells()}
        steps = {}
        for v in self.cells():
            for u in self.near(v):
                if v[0] != u[0]:
                    if all(may[cell] for cell in self.place(u)):
                        steps[v, u] = self.plain(v, u) + sum(extra[cell] for cell in self.place(u))
                elif may[v] and may[u]:
                    steps[v, u] = self.plain(v, u) + extra[u]
        return steps

    def spread(self, steps, reached):
        """The cost of each cell that has one."""
        cost = {cell: 0 for cell in reached}
        changed = True
        while changed:
            changed = False
            for (v, u), step in steps.items():
                if v in cost and cost[v] + step < cost.get(u, cost[v] + step + 1):
                    cost[u] = cost[v] + step
                    changed = True
        return cost

    def tree(self, net, soft):
        steps = self.steps(net, soft)
        reached = set(self.pins[net][0])
        waiting = self.pins[net][1:]
        ways, total = [], 0
        while waiting:
            cost = self.spread(steps, reached)
            found = [(cost[c], c[0], c[2], c[1]) for box in waiting for c in box if c in cost]
            if not found:
                return None
            least, z, y, x = min(found)
            way = [(z, x, y)]
            while True:
                u = way[-1]
                back = [v for v in self.near(u) if (v, u) in steps and v in cost and cost[v] + steps[v, u] == cost[u]]
                if not back:
                    break
                way.append(back[0])
            ways.append(way)
            total += least
            reached |= self.takes([way])
            for box in waiting:
                if way[0] in box:
                    reached |= set(box)
            waiting = [box for box in waiting if way[0] not in box]
        return total, ways

    def run(self, calls):
        names = (self.begin, self.costs, self.prefer, self.block, self.free, self.pin, self.drop, self.route, self.rip,
                 self.soft, self.order, self.auto, self.improve, self.cell, self.way, self.tree_of, self.cost,
                 self.nets, self.unlaid, self.total)
        return [names[call[0]](*call[2 if call[0] == 10 else 1:]) for call in calls]


def number_about(source, low, high):
    """Mostly a number of the range, now and then one beside or far beyond it."""
    if source.random() < 0.03:
        return source.choice((low - 1, high + 1, -1000000000, 1000000000))
    return source.randint(low, high)


def box_about(source, w, h, l, reach):
    x, y = number_about(source, 0, w - 1), number_about(source, 0, h - 1)
    x2, y2 = x + source.randint(0, reach), y + source.randint(0, reach)
    if source.random() < 0.9:
        x2, y2 = min(x2, w - 1), min(y2, h - 1)
    return [number_about(source, 0, l) if source.random() < 0.4 else source.randint(1, l), x, y, x2, y2]


def cell_about(source, w, h, l):
    return [number_about(source, 1, l), number_about(source, 0, w - 1), number_about(source, 0, h - 1)]


# How often each of the calls 1 to 19 comes.
OFTEN = (2, 3, 1, 1, 2, 1, 9, 4, 7, 3, 5, 4, 4, 6, 4, 4, 2, 2, 2)


def call_about(source, w, h, l, nets):
    net = number_about(source, 1, nets)
    number = source.choices(range(1, 20), OFTEN)[0]
    if number == 1:
        return [1] + [number_about(source, 1, source.choice((3, 12, 1000))) for k in range(3)]
    if number == 2:
        return [2, number_about(source, 1, l), number_about(source, 0, 2)]
    if number in (3, 4):
        return [number] + box_about(source, w, h, l, 1)
    if number == 5:
        return [5, net] + box_about(source, w, h, l, source.choice((0, 0, 1)))
    if number == 10:
        row = [number_about(source, 1, nets) for k in range(source.randint(0, 5))]
        return [10, len(row)] + row
    if number in (11, 12):
        return [number, number_about(source, 0, source.choice((3, 6, 12)))]
    if number == 13:
        return [13] + cell_about(source, w, h, l)
    if number == 14:
        return [14, net, number_about(source, 1, 2)]
    if number == 16:
        return [16, net] + cell_about(source, w, h, l) + cell_about(source, w, h, l)
    if number > 16:
        return [number]
    return [number, net]


def line_about(source):
    """Small boards of any shape, or ones with room enough that nets cross one another."""
    w, h, l = source.randint(1, 7), source.randint(1, 6), source.choice((1, 1, 2, 3, 4))
    nets, pins, reach = source.choice((4, 4, 8)), source.randint(6, 14), 1
    if source.random() < 0.6:
        w, h, l = source.randint(5, 8), source.randint(5, 8), source.choice((1, 1, 1, 2))
        nets, pins, reach = 6, source.randint(10, 16), 0
    calls = [[0, w, h, l]]
    for k in range(pins):
        calls.append([5, 1 + k % nets] + box_about(source, w, h, l, source.choice((0, 0, 0, 0, reach))))
    for k in range(source.randint(10, 50)):
        if source.random() < 0.005:
            calls.append([0] + [number_about(source, 1, 4) for size in range(3)])
        else:
            calls.append(call_about(source, w, h, l, nets))
    return calls


class Beside(unittest.TestCase):

    def check(self, calls):
        words = Words()
        board = Board()
        said = split(answers_on(board, [number for call in calls for number in call]))
        self.assertEqual(said, words.run(calls), calls)
        for net in range(1, 33):
            ways = board.ways[net]
            if ways is not None:
                ways = [[told(board, cell) for cell in way] for way in ways]
            self.assertEqual(ways, words.ways.get(net), calls)
        self.assertEqual(board.rips[1:], [words.rips[net] for net in range(1, 33)], calls)
        return said

    def test_lines_of_calls_by_chance(self):
        source = random.Random(1)
        seen = collections.Counter()
        for k in range(800):
            calls = line_about(source)
            for call, said in zip(calls, self.check(calls)):
                seen["laid"] += call[0] == 7 and said[0] > 0
                seen["through others"] += call[0] == 9 and len(said) > 2
                seen["tried again"] += call[0] == 11 and said[0] > 3
                seen["better"] += call[0] == 12 and said[0] == 1
                seen["again as before"] += call[0] == 12 and said[0] == 0
                seen["ripped by tries"] += call[0] == 17 and any(said[4::4])
        # Lines that come to nothing would show nothing.
        for what in ("laid", "through others", "tried again", "better", "again as before", "ripped by tries"):
            self.assertGreater(seen[what], 100, seen)


if __name__ == "__main__":
    unittest.main()
