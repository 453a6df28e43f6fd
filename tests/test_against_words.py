"""The program beside a second one that follows the document's words as slowly as they are told."""

import random
import unittest

from netways.board import answers_on
from netways.state import Board
from tests.helper import split, told


class Words:

    def __init__(self):
        self.begin(8, 8, 2)

    def begin(self, w, h, l):
        if not (1 <= w <= 24 and 1 <= h <= 24 and 1 <= l <= 4):
            return [-1]
        self.w, self.h, self.l = w, h, l
        self.via, self.wrong, self.penalty = 4, 2, 8
        self.direction = {layer: 0 for layer in range(1, l + 1)}
        self.blocked = set()
        self.pins = {net: [] for net in range(1, 33)}
        self.ways = {}
        self.rips = {net: 0 for net in range(1, 33)}
        return [0]

    def costs(self, via, wrong, penalty):
        if not all(1 <= cost <= 1000 for cost in (via, wrong, penalty)):
            return [-2]
        self.via, self.wrong, self.penalty = via, wrong, penalty
        return [0]

    def prefer(self, layer, direction):
        refusals = set()
        if not 1 <= layer <= self.l:
            refusals.add(-3)
        if direction not in (0, 1, 2):
            refusals.add(-4)
        if refusals:
            return [max(refusals)]
        self.direction[layer] = direction
        return [0]

    def block(self, *box):
        refusals = self.of_box(box)
        if not refusals and any(self.is_pins(cell) or self.is_taken(cell) for cell in self.box(box)):
            refusals.add(-11)
        if refusals:
            return [max(refusals)]
        self.blocked |= set(self.box(box))
        return [0]

    def free(self, *box):
        refusals = self.of_box(box)
        if refusals:
            return [max(refusals)]
        self.blocked -= set(self.box(box))
        return [0]

    def pin(self, net, *box):
        refusals = self.of_box(box) | self.of_net(net)
        if net in self.ways:
            refusals.add(-7)
        if len(self.pins.get(net, [])) == 16:
            refusals.add(-10)
        if not refusals and not all(self.may_use(net, cell) for cell in self.box(box)):
            refusals.add(-11)
        if refusals:
            return [max(refusals)]
        self.pins[net].append(self.box(box))
        return [len(self.pins[net])]

    def drop(self, net):
        refusals = self.of_net(net)
        if net in self.ways:
            refusals.add(-7)
        if refusals:
            return [max(refusals)]
        had = len(self.pins[net])
        self.pins[net] = []
        self.rips[net] = 0
        return [had]

    def route(self, net):
        refusals = self.of_tree(net)
        tree = None if refusals else self.tree(net, False)
        if tree is None:
            return [max(refusals | {-14})]
        self.ways[net] = tree[1]
        return [tree[0]]

    def rip(self, net):
        refusals = self.of_net(net)
        if net not in self.ways:
            refusals.add(-8)
        if refusals:
            return [max(refusals)]
        self.ways.pop(net)
        return [0]

    def soft(self, net):
        refusals = self.of_tree(net)
        tree = None if refusals else self.tree(net, True)
        if tree is None:
            return [max(refusals | {-14})]
        takes = self.takes(tree[1])
        others = [m for m in sorted(self.ways) if m != net and self.takes(self.ways[m]) & takes]
        return [tree[0], len(others)] + others

    def of_net(self, net):
        return set() if 1 <= net <= 32 else {-5}

    def of_box(self, box):
        layer, x1, y1, x2, y2 = box
        refusals = set()
        if not 0 <= layer <= self.l:
            refusals.add(-3)
        if not (0 <= x1 <= x2 <= self.w - 1 and 0 <= y1 <= y2 <= self.h - 1):
            refusals.add(-6)
        return refusals

    def of_tree(self, net):
        refusals = self.of_net(net)
        if net in self.ways:
            refusals.add(-7)
        if not self.pins.get(net):
            refusals.add(-9)
        return refusals

    def cells(self):
        return [(z, x, y) for z in range(1, self.l + 1) for y in range(self.h) for x in range(self.w)]

    def box(self, box):
        layer, x1, y1, x2, y2 = box
        return [(z, x, y) for z, x, y in self.cells() if layer in (0, z) and x1 <= x <= x2 and y1 <= y <= y2]

    def near(self, cell):
        z, x, y = cell
        row = [(z, x - 1, y), (z, x + 1, y), (z, x, y - 1), (z, x, y + 1), (z - 1, x, y), (z + 1, x, y)]
        return [(c, a, b) for c, a, b in row if 1 <= c <= self.l and 0 <= a < self.w and 0 <= b < self.h]

    def place(self, cell):
        return [(z, cell[1], cell[2]) for z in range(1, self.l + 1)]

    def takes(self, ways):
        taken = set()
        for way in ways:
            taken |= set(way)
            for a, b in zip(way, way[1:]):
                if a[0] != b[0]:
                    taken |= set(self.place(a))
        return taken

    def is_pins(self, cell, but=0):
        return any(cell in box for net in self.pins if net != but for box in self.pins[net])

    def is_taken(self, cell, but=0):
        return any(cell in self.takes(self.ways[net]) for net in self.ways if net != but)

    def may_use(self, net, cell, soft=False):
        if cell in self.blocked or self.is_pins(cell, net):
            return False
        return soft or not self.is_taken(cell, net)

    def extra(self, net, cell):
        if any(cell in box for box in self.pins[net]):
            return 0
        return sum(self.penalty * (1 + self.rips[m]) for m in self.ways if m != net and cell in self.takes(self.ways[m]))

    def steps(self, net, soft):
        """What each allowed step costs."""
        may = {cell: self.may_use(net, cell, soft) for cell in self.cells()}
        extra = {cell: self.extra(net, cell) if soft else 0 for cell in self.cells()}
        steps = {}
        for v in self.cells():
            for u in self.near(v):
                if v[0] != u[0]:
                    if all(may[cell] for cell in self.place(u)):
                        steps[v, u] = self.via + sum(extra[cell] for cell in self.place(u))
                elif may[v] and may[u]:
                    bad = 1 if v[1] == u[1] else 2
                    steps[v, u] = (self.wrong if self.direction[u[0]] == bad else 1) + extra[u]
        return steps

    def tree(self, net, soft):
        steps = self.steps(net, soft)
        reached = set(self.pins[net][0])
        waiting = self.pins[net][1:]
        ways, total = [], 0
        while waiting:
            cost = {cell: 0 for cell in reached}
            changed = True
            while changed:
                changed = False
                for (v, u), step in steps.items():
                    if v in cost and cost[v] + step < cost.get(u, cost[v] + step + 1):
                        cost[u] = cost[v] + step
                        changed = True
            found = [(cost[c], c[0], c[2], c[1]) for box in waiting for c in box if c in cost]
            if not found:
                return None
            least, z, y, x = min(found)
            way = [(z, x, y)]
            while True:
                u = way[-1]
                back = [v for v in self.near(u) if (v, u) in steps and v in cost and cost[v] + steps[v, u] == cost[u]]
                if not back:
                    break
                way.append(back[0])
            ways.append(way)
            total += least
            reached |= self.takes([way])
            for box in waiting:
                if way[0] in box:
                    reached |= set(box)
            waiting = [box for box in waiting if way[0] not in box]
        return total, ways

    def run(self, calls):
        names = (self.begin, self.costs, self.prefer, self.block, self.free,
                 self.pin, self.drop, self.route, self.rip, self.soft)
        return [names[call[0]](*call[1:]) for call in calls]


def number_about(source, low, high):
    """Mostly a number of the range, now and then one beside or far beyond it."""
    if source.random() < 0.03:
        return source.choice((low - 1, high + 1, -1000000000, 1000000000))
    return source.randint(low, high)


def box_about(source, w, h, l, reach):
    x, y = number_about(source, 0, w - 1), number_about(source, 0, h - 1)
    x2, y2 = x + source.randint(0, reach), y + source.randint(0, reach)
    if source.random() < 0.9:
        x2, y2 = min(x2, w - 1), min(y2, h - 1)
    return [number_about(source, 0, l) if source.random() < 0.4 else source.randint(1, l), x, y, x2, y2]


def call_about(source, w, h, l):
    net = number_about(source, 1, 4)
    number = source.choices(range(1, 10), (2, 3, 1, 1, 2, 1, 9, 3, 9))[0]
    if number == 1:
        return [1] + [number_about(source, 1, source.choice((3, 12, 1000))) for k in range(3)]
    if number == 2:
        return [2, number_about(source, 1, l), number_about(source, 0, 2)]
    if number in (3, 4):
        return [number] + box_about(source, w, h, l, 1)
    if number == 5:
        return [5, net] + box_about(source, w, h, l, source.choice((0, 0, 1)))
    return [number, net]


def line_about(source):
    w, h, l = source.randint(1, 7), source.randint(1, 6), source.choice((1, 1, 2, 3, 4))
    calls = [[0, w, h, l]]
    for k in range(source.randint(6, 14)):
        calls.append([5, 1 + k % 4] + box_about(source, w, h, l, source.choice((0, 0, 0, 0, 1))))
    for k in range(source.randint(10, 50)):
        if source.random() < 0.005:
            calls.append([0] + [number_about(source, 1, 4) for size in range(3)])
        else:
            calls.append(call_about(source, w, h, l))
    return calls


class Beside(unittest.TestCase):

    def check(self, calls):
        words = Words()
        board = Board()
        said = split(answers_on(board, [number for call in calls for number in call]))
        self.assertEqual(said, words.run(calls), calls)
        for net in range(1, 33):
            ways = board.ways[net]
            if ways is not None:
                ways = [[told(board, cell) for cell in way] for way in ways]
            self.assertEqual(ways, words.ways.get(net), calls)
        return said

    def test_lines_of_calls_by_chance(self):
        source = random.Random(1)
        laid = 0
        through = 0
        for k in range(800):
            calls = line_about(source)
            for call, said in zip(calls, self.check(calls)):
                laid += call[0] == 7 and said[0] > 0
                through += call[0] == 9 and len(said) > 2
        # Lines that lay nothing would show nothing.
        self.assertGreater(laid, 400)
        self.assertGreater(through, 100)


if __name__ == "__main__":
    unittest.main()
