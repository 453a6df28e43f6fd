import unittest

from tests.helper import BIG, WRONG_CORNERS, ask, begin, block, board_behind, free, held, last, pin, rip, route
from tests.helper import soft, usable

SMALL = [begin(4, 3, 2)]
ALL_CELLS = [(layer, x, y) for layer in (1, 2) for y in range(3) for x in range(4)]


def without(cells):
    return [cell for cell in ALL_CELLS if cell not in cells]


class Block(unittest.TestCase):

    def test_the_cells_of_the_box_are_blocked(self):
        calls = SMALL + [block(1, 1, 0, 2, 1)]
        self.assertEqual(last(calls), [0])
        gone = [(1, 1, 0), (1, 2, 0), (1, 1, 1), (1, 2, 1)]
        self.assertEqual(usable(calls, 1, 4, 3, 2), without(gone))

    def test_layer_0_is_every_layer(self):
        calls = SMALL + [block(0, 3, 2, 3, 2)]
        self.assertEqual(last(calls), [0])
        self.assertEqual(usable(calls, 1, 4, 3, 2), without([(1, 3, 2), (2, 3, 2)]))

    def test_some_may_have_been_blocked(self):
        calls = SMALL + [block(2, 0, 0), block(2, 0, 0, 1, 0), block(2, 0, 0)]
        self.assertEqual(ask(calls)[1:], [[0], [0], [0]])
        self.assertEqual(usable(calls, 1, 4, 3, 2), without([(2, 0, 0), (2, 1, 0)]))

    def test_the_whole_board_may_be_blocked(self):
        calls = SMALL + [block(0, 0, 0, 3, 2)]
        self.assertEqual(last(calls), [0])
        self.assertEqual(usable(calls, 1, 4, 3, 2), [])

    def test_a_blocked_cell_is_not_stepped_on(self):
        calls = [begin(3, 2, 1), block(1, 1, 0), pin(1, 1, 0, 0), pin(1, 1, 2, 0), route(1)]
        self.assertEqual(last(calls), [4])
        self.assertEqual(last(calls[:-1] + [soft(1)]), [4, 0])

    def test_layers_beyond_the_range_are_refused(self):
        for good in (0, 1, 2):
            self.assertEqual(last(SMALL + [block(good, 0, 0)]), [0])
        for bad in (-BIG, -1, 3, BIG):
            self.assertEqual(last(SMALL + [block(bad, 0, 0)]), [-3])

    def test_x_and_y_beyond_the_range_are_refused(self):
        for corners in WRONG_CORNERS:
            self.assertEqual(last(SMALL + [block(1, *corners)]), [-6])
            self.assertEqual(last(SMALL + [block(0, *corners)]), [-6])

    def test_of_both_refusals_the_layers_is_answered(self):
        self.assertEqual(last(SMALL + [block(3, 0, 0, 4, 0)]), [-3])
        self.assertEqual(last(SMALL + [block(-1, 2, 0, 1, 0)]), [-3])

    def test_a_pins_cell_can_not_be_had(self):
        calls = SMALL + [pin(1, 2, 1, 1)]
        self.assertEqual(last(calls + [block(2, 1, 1)]), [-11])
        self.assertEqual(last(calls + [block(0, 1, 1)]), [-11])
        self.assertEqual(last(calls + [block(2, 0, 0, 3, 2)]), [-11])
        self.assertEqual(last(calls + [block(1, 1, 1)]), [0])

    def test_a_taken_cell_can_not_be_had(self):
        calls = SMALL + [pin(1, 1, 0, 0), pin(1, 1, 2, 0), route(1)]
        self.assertEqual(last(calls + [block(1, 1, 0)]), [-11])
        self.assertEqual(last(calls + [rip(1), block(1, 1, 0)]), [0])

    def test_where_the_box_is_wrong_too_that_is_answered(self):
        calls = SMALL + [pin(1, 1, 0, 0)]
        self.assertEqual(last(calls + [block(1, 0, 0, 4, 0)]), [-6])
        self.assertEqual(last(calls + [block(3, 0, 0)]), [-3])

    def test_a_refusal_changes_nothing(self):
        calls = SMALL + [pin(1, 1, 3, 0)]
        for refused in (block(1, 0, 0, 3, 2), block(0, 0, 0, 3, 2), block(3, 0, 0), block(1, 0, 0, 4, 0)):
            self.assertEqual(usable(calls + [refused], 1, 4, 3, 2), ALL_CELLS)


class Free(unittest.TestCase):

    def test_the_cells_of_the_box_are_not_blocked_any_more(self):
        calls = SMALL + [block(0, 0, 0, 3, 2), free(2, 1, 1, 2, 2)]
        self.assertEqual(last(calls), [0])
        self.assertEqual(usable(calls, 1, 4, 3, 2), [(2, 1, 1), (2, 2, 1), (2, 1, 2), (2, 2, 2)])

    def test_layer_0_is_every_layer(self):
        calls = SMALL + [block(0, 0, 0, 3, 2), free(0, 3, 2)]
        self.assertEqual(last(calls), [0])
        self.assertEqual(usable(calls, 1, 4, 3, 2), [(1, 3, 2), (2, 3, 2)])

    def test_cells_that_are_not_blocked_may_be_freed(self):
        self.assertEqual(last(SMALL + [free(0, 0, 0, 3, 2)]), [0])

    def test_pins_and_ways_stay(self):
        calls = SMALL + [pin(1, 1, 0, 0), pin(1, 1, 2, 0), route(1)]
        before = held(calls, 4, 3, 2)
        calls = calls + [free(0, 0, 0, 3, 2)]
        self.assertEqual(last(calls), [0])
        self.assertEqual(held(calls, 4, 3, 2), before)
        self.assertEqual(board_behind(calls).pins[1], [[0], [2]])

    def test_layers_beyond_the_range_are_refused(self):
        for good in (0, 1, 2):
            self.assertEqual(last(SMALL + [free(good, 0, 0)]), [0])
        for bad in (-BIG, -1, 3, BIG):
            self.assertEqual(last(SMALL + [free(bad, 0, 0)]), [-3])

    def test_x_and_y_beyond_the_range_are_refused(self):
        for corners in WRONG_CORNERS:
            self.assertEqual(last(SMALL + [free(1, *corners)]), [-6])
            self.assertEqual(last(SMALL + [free(0, *corners)]), [-6])

    def test_of_both_refusals_the_layers_is_answered(self):
        self.assertEqual(last(SMALL + [free(3, 0, 0, 4, 0)]), [-3])

    def test_a_refusal_changes_nothing(self):
        calls = SMALL + [block(0, 0, 0, 3, 2)]
        for refused in (free(3, 0, 0), free(-1, 0, 0), free(0, 0, 0, 4, 2), free(0, 1, 0, 0, 0)):
            self.assertEqual(usable(calls + [refused], 1, 4, 3, 2), [])


if __name__ == "__main__":
    unittest.main()
