"""How the tests write calls and look at what comes of them."""

from netways.board import answers, answers_on
from netways.state import Board

BIG = 1000000000

# Corners x1, y1, x2, y2 that are not a box on a board of 4 columns and 3 rows.
WRONG_CORNERS = (
    (-1, 0, 1, 1), (0, -1, 1, 1), (0, 0, 4, 1), (0, 0, 1, 3), (4, 0, 4, 1), (0, 3, 1, 3), (2, 0, 1, 1),
    (0, 2, 1, 1), (-BIG, 0, 1, 1), (0, -BIG, 1, 1), (0, 0, BIG, 1), (0, 0, 1, BIG), (BIG, 0, BIG, 1),
    (0, BIG, 1, BIG), (0, 0, -BIG, 1), (0, 0, 1, -BIG), (-BIG, -BIG, BIG, BIG),
)


def begin(w, h, l):
    return [0, w, h, l]


def costs(via, wrong, penalty):
    return [1, via, wrong, penalty]


def prefer(layer, direction):
    return [2, layer, direction]


def block(layer, x1, y1, x2=None, y2=None):
    return [3] + box(layer, x1, y1, x2, y2)


def free(layer, x1, y1, x2=None, y2=None):
    return [4] + box(layer, x1, y1, x2, y2)


def pin(net, layer, x1, y1, x2=None, y2=None):
    return [5, net] + box(layer, x1, y1, x2, y2)


def drop(net):
    return [6, net]


def route(net):
    return [7, net]


def rip(net):
    return [8, net]


def soft(net):
    return [9, net]


def order(*told_nets):
    return [10, len(told_nets)] + list(told_nets)


def auto(budget):
    return [11, budget]


def improve(budget):
    return [12, budget]


def cell(layer, x, y):
    return [13, layer, x, y]


def way(net, k):
    return [14, net, k]


def tree(net):
    return [15, net]


def cost(net, start, goal):
    """Both ends as layer, x and y."""
    return [16, net] + list(start) + list(goal)


def nets():
    return [17]


def unlaid():
    return [18]


def total():
    return [19]


def box(layer, x1, y1, x2, y2):
    """A box, of one cell where its second corner is left out."""
    return [layer, x1, y1, x1 if x2 is None else x2, y1 if y2 is None else y2]


def joined(calls):
    return [number for call in calls for number in call]


def split(said):
    """The answers as a list of lists."""
    found = []
    at = 0
    while at < len(said):
        found.append(said[at + 1:at + 1 + said[at]])
        at += 1 + said[at]
    return found


def ask(calls):
    """What each of the calls answers."""
    return split(answers(joined(calls)))


def last(calls):
    """What the last of the calls answers."""
    return ask(calls)[-1]


def held(calls, w, h, l):
    """The cells that are a pin's or taken behind the calls, as only block's -11 tells them."""
    found = []
    for layer in range(1, l + 1):
        for y in range(h):
            for x in range(w):
                if last(calls + [block(layer, x, y)]) == [-11]:
                    found.append((layer, x, y))
    return found


def usable(calls, net, w, h, l):
    """The cells that the net may use behind the calls, as pin tells them."""
    found = []
    for layer in range(1, l + 1):
        for y in range(h):
            for x in range(w):
                if last(calls + [pin(net, layer, x, y)])[0] > 0:
                    found.append((layer, x, y))
    return found


def seen(calls, w, h, l):
    """All that the calls that only ask tell of the board behind the calls."""
    asked = [nets(), unlaid(), total()]
    asked += [cell(layer, x, y) for layer in range(1, l + 1) for y in range(h) for x in range(w)]
    for net in range(1, 33):
        asked += [tree(net)] + [way(net, k) for k in range(1, 17)]
    return ask(calls + asked)[len(calls):]


def rips(calls):
    """The rips of the nets that have pins behind the calls, by net."""
    said = last(calls + [nets()])
    return {said[k]: said[k + 3] for k in range(1, len(said), 4)}


def board_behind(calls):
    """The board itself behind the calls."""
    board = Board()
    answers_on(board, joined(calls))
    return board


def told(board, number):
    """A cell's number as layer, x and y."""
    grid = board.grid
    return (number // grid.area + 1, number % grid.columns, number // grid.columns % grid.rows)


def ways(calls, net):
    """The ways of a net that the calls have laid, in their order."""
    board = board_behind(calls)
    return [[told(board, number) for number in cells] for cells in board.ways[net]]
