"""The cells of a board as whole numbers, and what lies where.

Cells are numbered from 0 by layer, then by y, then by x, so that the first of several
cells "in order" is always the one with the smallest number.
"""

# The kinds of a step. The two on a layer are numbered like the directions of a layer,
# so that a step is a wrong one where the two numbers differ.
TO_LAYER = 0
ALONG_X = 1
ALONG_Y = 2


class Grid:

    def __init__(self, columns, rows, layers):
        self.columns = columns
        self.rows = rows
        self.layers = layers
        self.area = columns * rows
        self.size = columns * rows * layers
        self.near = [self.near_cells(cell) for cell in range(self.size)]

    # Pairs of a near cell and the kind of the step to it. Ties are broken by the order
    # of these pairs, so it has to be the document's.
    def near_cells(self, cell):
        x = cell % self.columns
        y = cell // self.columns % self.rows
        pairs = []
        if x > 0:
            pairs.append((cell - 1, ALONG_X))
        if x < self.columns - 1:
            pairs.append((cell + 1, ALONG_X))
        if y > 0:
            pairs.append((cell - self.columns, ALONG_Y))
        if y < self.rows - 1:
            pairs.append((cell + self.columns, ALONG_Y))
        if cell >= self.area:
            pairs.append((cell - self.area, TO_LAYER))
        if cell + self.area < self.size:
            pairs.append((cell + self.area, TO_LAYER))
        return pairs

    # x is asked for, not how far the numbers are apart: in one column y is 1 apart, too.
    def step_kind(self, cell, near):
        if self.place_of(cell) == self.place_of(near):
            return TO_LAYER
        if cell % self.columns == near % self.columns:
            return ALONG_Y
        return ALONG_X

    # A spot is the list of a cell's layer, x and y.
    def cell_at(self, spot):
        return (spot[0] - 1) * self.area + spot[2] * self.columns + spot[1]

    def spot_of(self, cell):
        return [cell // self.area + 1, cell % self.columns, cell // self.columns % self.rows]

    # A place has the number of its cell on layer 1.
    def place_of(self, cell):
        return cell % self.area

    def place_cells(self, place):
        return list(range(place, self.size, self.area))

    # A box is layer, x1, y1, x2, y2; its layer is not looked at here, because a bad one
    # is another refusal.
    def holds_box(self, box):
        return 0 <= box[1] <= box[3] < self.columns and 0 <= box[2] <= box[4] < self.rows

    def box_cells(self, box):
        layers = [box[0]]
        if box[0] == 0:
            layers = list(range(1, self.layers + 1))
        cells = []
        for layer in layers:
            for y in range(box[2], box[4] + 1):
                cells.extend(list(range(self.cell_at([layer, box[1], y]), self.cell_at([layer, box[3], y]) + 1)))
        return cells

    # A step to another layer takes the whole place.
    def taken_cells(self, ways):
        taken = {}
        for way in ways:
            for k, cell in enumerate(way):
                taken[cell] = True
                if k > 0 and self.step_kind(way[k - 1], cell) == TO_LAYER:
                    for other in self.place_cells(self.place_of(cell)):
                        taken[other] = True
        return list(taken)
