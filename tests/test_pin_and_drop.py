import unittest

from tests.helper import BIG, WRONG_CORNERS, ask, begin, block, board_behind, drop, free, held, last, pin, rip, route
from tests.helper import told

SMALL = [begin(4, 3, 2)]
FULL = SMALL + [pin(1, 1, 0, 0)] * 16
LAID = SMALL + [pin(1, 1, 0, 0), pin(1, 1, 2, 0), route(1)]


class Pin(unittest.TestCase):

    def test_it_answers_how_many_pins_the_net_has_then(self):
        calls = SMALL + [pin(1, 1, 0, 0), pin(2, 1, 3, 0), pin(1, 2, 0, 0), pin(2, 2, 3, 0), pin(1, 1, 1, 1)]
        self.assertEqual(ask(calls)[1:], [[1], [1], [2], [2], [3]])

    def test_its_cells_are_the_boxs_in_order(self):
        board = board_behind(SMALL + [pin(1, 0, 1, 0, 2, 1)])
        cells = [told(board, cell) for cell in board.pins[1][0]]
        self.assertEqual(cells, [(layer, x, y) for layer in (1, 2) for y in (0, 1) for x in (1, 2)])

    def test_its_cells_are_held(self):
        self.assertEqual(held(SMALL + [pin(1, 2, 1, 0, 2, 0)], 4, 3, 2), [(2, 1, 0), (2, 2, 0)])
        self.assertEqual(held(SMALL + [pin(1, 0, 3, 2)], 4, 3, 2), [(1, 3, 2), (2, 3, 2)])

    def test_some_may_be_in_other_pins_of_this_net(self):
        calls = SMALL + [pin(1, 1, 0, 0, 2, 0), pin(1, 1, 2, 0, 3, 0), pin(1, 1, 0, 0, 2, 0)]
        self.assertEqual(ask(calls)[1:], [[1], [2], [3]])

    def test_nets_beyond_the_range_are_refused(self):
        for good in (1, 32):
            self.assertEqual(last(SMALL + [pin(good, 1, 0, 0)]), [1])
        for bad in (-BIG, -1, 0, 33, BIG):
            self.assertEqual(last(SMALL + [pin(bad, 1, 0, 0)]), [-5])

    def test_layers_beyond_the_range_are_refused(self):
        for good in (0, 1, 2):
            self.assertEqual(last(SMALL + [pin(1, good, 0, 0)]), [1])
        for bad in (-BIG, -1, 3, BIG):
            self.assertEqual(last(SMALL + [pin(1, bad, 0, 0)]), [-3])

    def test_x_and_y_beyond_the_range_are_refused(self):
        self.assertEqual(last(SMALL + [pin(1, 0, 0, 0, 3, 2)]), [1])
        for corners in WRONG_CORNERS:
            self.assertEqual(last(SMALL + [pin(1, 1, *corners)]), [-6])

    def test_a_net_that_is_laid_is_refused(self):
        self.assertEqual(last(LAID + [pin(1, 1, 3, 2)]), [-7])
        self.assertEqual(last(LAID + [rip(1), pin(1, 1, 3, 2)]), [3])

    def test_a_net_with_one_pin_can_be_laid_too(self):
        self.assertEqual(last(SMALL + [pin(1, 1, 0, 0), route(1), pin(1, 1, 1, 0)]), [-7])

    def test_a_17th_pin_is_refused(self):
        self.assertEqual(ask(FULL)[1:], [[count] for count in range(1, 17)])
        self.assertEqual(last(FULL + [pin(1, 1, 1, 0)]), [-10])
        self.assertEqual(last(FULL + [pin(2, 1, 1, 0)]), [1])

    def test_a_cell_that_the_net_may_not_use_can_not_be_had(self):
        self.assertEqual(last(SMALL + [block(1, 1, 1), pin(1, 1, 1, 1)]), [-11])
        self.assertEqual(last(SMALL + [block(1, 1, 1), pin(1, 0, 0, 0, 3, 2)]), [-11])
        self.assertEqual(last(SMALL + [block(1, 1, 1), free(1, 1, 1), pin(1, 1, 1, 1)]), [1])
        self.assertEqual(last(SMALL + [pin(2, 1, 1, 1), pin(1, 1, 0, 0, 1, 1)]), [-11])
        self.assertEqual(last(LAID + [pin(2, 1, 0, 0)]), [-11])
        self.assertEqual(last(LAID + [pin(2, 1, 1, 0)]), [-11])
        self.assertEqual(last(LAID + [pin(2, 2, 1, 0)]), [1])

    def test_of_several_refusals_the_one_nearest_to_0_is_answered(self):
        self.assertEqual(last(LAID + [pin(0, 3, 9, 9)]), [-3])
        self.assertEqual(last(LAID + [pin(0, 1, 9, 9)]), [-5])
        self.assertEqual(last(LAID + [pin(33, 1, 0, 0)]), [-5])
        self.assertEqual(last(LAID + [pin(1, 1, 9, 9)]), [-6])
        self.assertEqual(last(LAID + [pin(1, -1, 0, 0)]), [-3])
        self.assertEqual(last(LAID + [pin(2, 1, 3, 2), pin(1, 1, 3, 2)]), [-7])
        self.assertEqual(last(FULL + [route(1), pin(1, 1, 1, 1)]), [-7])
        self.assertEqual(last(FULL + [block(1, 3, 2), pin(1, 1, 3, 2)]), [-10])
        self.assertEqual(last(FULL + [pin(1, 1, 4, 2)]), [-6])
        self.assertEqual(last(SMALL + [block(1, 3, 2), pin(1, 1, 3, 2, 4, 2)]), [-6])

    def test_a_refusal_changes_nothing(self):
        calls = SMALL + [block(2, 3, 2), pin(1, 1, 0, 0)]
        for refused in (pin(1, 0, 3, 2), pin(1, 2, 0, 0, 3, 2), pin(1, 3, 1, 1), pin(0, 1, 1, 1), pin(1, 1, 4, 0)):
            self.assertEqual(held(calls + [refused], 4, 3, 2), [(1, 0, 0)])
            self.assertEqual(last(calls + [refused, drop(1)]), [1])
        self.assertEqual(last(FULL + [pin(1, 1, 1, 1), drop(1)]), [16])


class Drop(unittest.TestCase):

    def test_it_answers_how_many_pins_the_net_had(self):
        for count in (0, 1, 2, 16):
            self.assertEqual(last(SMALL + [pin(1, 1, 0, 0)] * count + [drop(1)]), [count])

    def test_the_net_has_no_pins_any_more(self):
        calls = SMALL + [pin(1, 0, 0, 0, 1, 1), pin(1, 1, 1, 1, 2, 2), drop(1)]
        self.assertEqual(last(calls + [drop(1)]), [0])
        self.assertEqual(last(calls + [route(1)]), [-9])
        self.assertEqual(last(calls + [pin(1, 1, 0, 0)]), [1])
        self.assertEqual(held(calls, 4, 3, 2), [])

    def test_other_nets_keep_theirs(self):
        calls = SMALL + [pin(1, 1, 0, 0), pin(2, 1, 3, 0), drop(1)]
        self.assertEqual(held(calls, 4, 3, 2), [(1, 3, 0)])
        self.assertEqual(last(calls + [drop(2)]), [1])

    def test_its_rips_is_0(self):
        board = board_behind(SMALL + [pin(1, 1, 0, 0), pin(2, 1, 3, 0)])
        board.rips[1] = 4
        board.rips[2] = 5
        board.drop_pins(1)
        self.assertEqual(board.rips[1:3], [0, 5])

    def test_nets_beyond_the_range_are_refused(self):
        for good in (1, 32):
            self.assertEqual(last([drop(good)]), [0])
        for bad in (-BIG, -1, 0, 33, BIG):
            self.assertEqual(last([drop(bad)]), [-5])

    def test_a_net_that_is_laid_is_refused_and_stays(self):
        self.assertEqual(last(LAID + [drop(1)]), [-7])
        self.assertEqual(held(LAID + [drop(1)], 4, 3, 2), [(1, 0, 0), (1, 1, 0), (1, 2, 0)])
        self.assertEqual(last(LAID + [drop(1), rip(1), drop(1)]), [2])


if __name__ == "__main__":
    unittest.main()
