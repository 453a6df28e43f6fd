import unittest

from tests.helper import BIG, ask, auto, begin, block, costs, last, pin, prefer, rip, route, seen, tree, way

# Net 1 in three ways: along the row, then down from it, then on from there.
BRANCHED = [begin(6, 4, 1), pin(1, 1, 0, 0), pin(1, 1, 3, 0), pin(1, 1, 2, 3), pin(1, 1, 5, 3), route(1)]

ONE_PIN = [begin(4, 4, 2), pin(2, 0, 1, 1, 2, 2), route(2)]

# A pin at the top layer, one at the bottom, and a wall between them on all layers but 2.
OVER_2 = {l: [begin(5, 1, l)] + [block(layer, 2, 0) for layer in range(1, l + 1) if layer != 2] + [
    pin(1, 1, 0, 0), pin(1, l, 4, 0), route(1)] for l in (3, 4)}


class Way(unittest.TestCase):

    def test_how_many_cells_then_layer_x_and_y_of_each_from_the_target_back(self):
        self.assertEqual(ask(BRANCHED + [way(1, 1), way(1, 2), way(1, 3)])[6:], [
            [4, 1, 3, 0, 1, 2, 0, 1, 1, 0, 1, 0, 0],
            [4, 1, 2, 3, 1, 2, 2, 1, 2, 1, 1, 2, 0],
            [4, 1, 5, 3, 1, 4, 3, 1, 3, 3, 1, 2, 3]])

    def test_a_way_of_one_cell(self):
        calls = [begin(5, 2, 3), pin(1, 2, 0, 1, 2, 1), pin(1, 2, 2, 1, 4, 1), route(1)]
        self.assertEqual(ask(calls + [way(1, 1), way(1, 2)])[4:], [[1, 2, 2, 1], [-13]])

    def test_steps_to_other_layers(self):
        self.assertEqual(last(OVER_2[3] + [way(1, 1)]), [
            7, 3, 4, 0, 3, 3, 0, 2, 3, 0, 2, 2, 0, 2, 1, 0, 2, 0, 0, 1, 0, 0])
        self.assertEqual(last(OVER_2[4] + [way(1, 1)]), [
            8, 4, 4, 0, 4, 3, 0, 3, 3, 0, 2, 3, 0, 2, 2, 0, 2, 1, 0, 2, 0, 0, 1, 0, 0])

    def test_a_net_with_one_pin_has_no_ways(self):
        for k in (-BIG, -1, 0, 1, 2, BIG):
            self.assertEqual(last(ONE_PIN + [way(2, k)]), [-13])

    def test_numbers_beyond_the_range_are_refused(self):
        for k in (1, 3):
            self.assertEqual(last(BRANCHED + [way(1, k)])[0], 4)
        for k in (-BIG, -3, -1, 0, 4, BIG):
            self.assertEqual(last(BRANCHED + [way(1, k)]), [-13])

    def test_nets_beyond_the_range_are_refused(self):
        for good in (1, 32):
            calls = [begin(2, 1, 1), pin(good, 1, 0, 0), pin(good, 1, 1, 0), route(good)]
            self.assertEqual(last(calls + [way(good, 1)]), [2, 1, 1, 0, 1, 0, 0])
        for bad in (-BIG, -1, 0, 33, BIG):
            self.assertEqual(last(BRANCHED + [way(bad, 1)]), [-5])

    def test_a_net_that_is_not_laid_is_refused(self):
        self.assertEqual(last(BRANCHED + [way(2, 1)]), [-8])
        self.assertEqual(last(BRANCHED + [rip(1), way(1, 1)]), [-8])

    def test_of_several_refusals_the_one_nearest_to_0_is_answered(self):
        self.assertEqual(last(BRANCHED + [way(33, 0)]), [-5])
        self.assertEqual(last(BRANCHED + [way(2, 0)]), [-8])
        self.assertEqual(last(BRANCHED + [rip(1), way(1, 4)]), [-8])

    def test_nothing_changes(self):
        calls = BRANCHED + [way(1, 1), way(1, 2), way(1, 0), way(0, 1), way(2, 1)]
        self.assertEqual(seen(calls, 6, 4, 1), seen(BRANCHED, 6, 4, 1))

    def test_ways_stay_as_they_were_laid(self):
        self.assertEqual(last(OVER_2[3] + [costs(1, 9, 9), prefer(2, 2), way(1, 1)]), last(OVER_2[3] + [way(1, 1)]))


class Tree(unittest.TestCase):

    def test_the_cost_how_many_ways_and_how_many_unlike_cells(self):
        self.assertEqual(last(BRANCHED + [tree(1)]), [9, 3, 10])

    def test_a_net_with_one_pin(self):
        self.assertEqual(last(ONE_PIN + [tree(2)]), [0, 0, 0])

    def test_a_way_of_one_cell(self):
        calls = [begin(5, 1, 3), pin(1, 2, 0, 0, 2, 0), pin(1, 2, 2, 0, 4, 0), route(1)]
        self.assertEqual(last(calls + [tree(1)]), [0, 1, 1])

    def test_a_cell_of_two_ways_counts_once(self):
        calls = [begin(1, 1, 3), pin(1, 1, 0, 0), pin(1, 3, 0, 0), pin(1, 2, 0, 0), route(1)]
        self.assertEqual(last(calls + [tree(1)]), [4, 2, 3])

    def test_steps_to_other_layers_take_all_cells_of_the_place(self):
        # The places 0 and 3 are taken whole, beside two cells on layer 2 and one on the last layer.
        self.assertEqual(last(OVER_2[3] + [tree(1)]), [4 + 3 + 4 + 1, 1, 3 + 2 + 3 + 1])
        self.assertEqual(last(OVER_2[4] + [tree(1)]), [4 + 3 + 8 + 1, 1, 4 + 2 + 4 + 1])

    def test_costs_as_they_are_now(self):
        self.assertEqual(last(OVER_2[4] + [costs(10, 2, 8), tree(1)]), [34, 1, 11])
        self.assertEqual(last(OVER_2[4] + [costs(1, 1000, 1000), tree(1)]), [7, 1, 11])

    def test_directions_as_they_are_now(self):
        dear = costs(4, 100, 8)
        self.assertEqual(last(BRANCHED + [dear, tree(1)]), [9, 3, 10])
        self.assertEqual(last(BRANCHED + [dear, prefer(1, 1), tree(1)]), [306, 3, 10])
        self.assertEqual(last(BRANCHED + [dear, prefer(1, 2), tree(1)]), [603, 3, 10])
        self.assertEqual(last(BRANCHED + [dear, prefer(1, 2), prefer(1, 0), tree(1)]), [9, 3, 10])
        for layer, wrong_steps in ((1, 0), (2, 3), (3, 1)):
            self.assertEqual(last(OVER_2[3] + [dear, prefer(layer, 2), tree(1)]), [12 + 99 * wrong_steps, 1, 9])
            self.assertEqual(last(OVER_2[3] + [dear, prefer(layer, 1), tree(1)]), [12, 1, 9])

    def test_a_board_of_one_column_and_one_of_one_row(self):
        down = [begin(1, 5, 2), costs(4, 7, 8), pin(1, 1, 0, 0), pin(1, 1, 0, 4), route(1)]
        self.assertEqual(last(down + [tree(1)]), [4, 1, 5])
        self.assertEqual(last(down + [prefer(1, 1), tree(1)]), [28, 1, 5])
        self.assertEqual(last(down + [prefer(1, 2), tree(1)]), [4, 1, 5])
        across = [begin(5, 1, 2), costs(4, 7, 8), pin(1, 1, 0, 0), pin(1, 1, 4, 0), route(1)]
        self.assertEqual(last(across + [prefer(1, 1), tree(1)]), [4, 1, 5])
        self.assertEqual(last(across + [prefer(1, 2), tree(1)]), [28, 1, 5])
        up = [begin(1, 1, 4), costs(3, 7, 8), prefer(1, 1), prefer(2, 2), pin(1, 1, 0, 0), pin(1, 4, 0, 0), route(1)]
        self.assertEqual(last(up + [tree(1)]), [9, 1, 4])

    def test_nothing_extra_counts(self):
        crossed = [begin(5, 3, 1), pin(1, 1, 2, 0), pin(1, 1, 2, 2), route(1), pin(2, 1, 0, 1), pin(2, 1, 4, 1)]
        self.assertEqual(last(crossed + [auto(1), tree(2)]), [4, 1, 5])

    def test_nets_beyond_the_range_are_refused(self):
        for good in (1, 32):
            self.assertEqual(last([pin(good, 1, 0, 0), route(good), tree(good)]), [0, 0, 0])
        for bad in (-BIG, -1, 0, 33, BIG):
            self.assertEqual(last(BRANCHED + [tree(bad)]), [-5])

    def test_a_net_that_is_not_laid_is_refused(self):
        self.assertEqual(last(BRANCHED + [tree(2)]), [-8])
        self.assertEqual(last(BRANCHED + [rip(1), tree(1)]), [-8])

    def test_nothing_changes(self):
        calls = BRANCHED + [tree(1), tree(0), tree(2)]
        self.assertEqual(seen(calls, 6, 4, 1), seen(BRANCHED, 6, 4, 1))


if __name__ == "__main__":
    unittest.main()
