import unittest

from netways.asks import ask_soft as soft_on
from tests.helper import BIG, ask, begin, block, board_behind, costs, held, last, pin, prefer, rip, route, soft

# Net 1 down the middle column, net 2 with a pin on either side.
CROSSED = [begin(5, 3, 1), pin(1, 1, 2, 0), pin(1, 1, 2, 2), route(1), pin(2, 1, 0, 1), pin(2, 1, 4, 1)]

# Net 1 takes a cell on layer 1 and net 3 the one on layer 2 of the only place where net 2 can pass.
GATE = [begin(3, 3, 2), pin(1, 1, 1, 0), pin(1, 1, 1, 2), route(1), pin(3, 2, 1, 0), pin(3, 2, 1, 2), route(3),
        pin(2, 1, 0, 1), pin(2, 2, 2, 1), block(2, 0, 1), block(1, 2, 1)]


class Refusals(unittest.TestCase):

    def test_nets_beyond_the_range_are_refused(self):
        for good in (1, 32):
            self.assertEqual(last([pin(good, 1, 0, 0), soft(good)]), [0, 0])
        for bad in (-BIG, -1, 0, 33, BIG):
            self.assertEqual(last([soft(bad)]), [-5])

    def test_a_net_that_is_laid_is_refused(self):
        self.assertEqual(last(CROSSED + [soft(1)]), [-7])
        self.assertEqual(last(CROSSED + [rip(1), soft(1)]), [2, 0])

    def test_a_net_without_pins_is_refused(self):
        self.assertEqual(last(CROSSED + [soft(3)]), [-9])

    def test_blocked_cells_can_leave_no_soft_tree(self):
        self.assertEqual(last([begin(5, 1, 1), block(1, 2, 0), pin(1, 1, 0, 0), pin(1, 1, 4, 0), soft(1)]), [-14])

    def test_other_nets_pins_can_leave_no_soft_tree(self):
        row = [begin(5, 1, 1), pin(1, 1, 0, 0), pin(1, 1, 4, 0), pin(2, 1, 2, 0)]
        self.assertEqual(last(row + [soft(1)]), [-14])
        self.assertEqual(last(row + [route(2), soft(1)]), [-14])


class Extra(unittest.TestCase):

    def test_nothing_extra_where_nothing_is_in_the_way(self):
        calls = [begin(5, 3, 2), pin(1, 1, 0, 0), pin(1, 2, 4, 2)]
        self.assertEqual(last(calls + [soft(1)]), [10, 0])
        self.assertEqual(last(calls + [route(1)]), [10])
        self.assertEqual(last([pin(1, 0, 0, 0, 3, 3), soft(1)]), [0, 0])

    def test_a_taken_cell_stepped_to_on_a_layer_costs_penalty(self):
        self.assertEqual(last(CROSSED + [route(2)]), [-14])
        self.assertEqual(last(CROSSED + [soft(2)]), [4 + 8, 1, 1])
        self.assertEqual(last(CROSSED + [costs(4, 2, 3), soft(2)]), [4 + 3, 1, 1])
        self.assertEqual(last(CROSSED + [costs(4, 2, 1000), soft(2)]), [4 + 1000, 1, 1])

    def test_wrong_counts_beside_it(self):
        self.assertEqual(last(CROSSED + [costs(4, 6, 3), prefer(1, 2), soft(2)]), [4 * 6 + 3, 1, 1])

    def test_each_taken_cell_costs_it(self):
        calls = [begin(6, 3, 1), pin(7, 1, 2, 0), pin(7, 1, 2, 2), route(7), pin(3, 1, 3, 0), pin(3, 1, 3, 2), route(3),
                 pin(5, 1, 0, 1), pin(5, 1, 5, 1), soft(5)]
        self.assertEqual(last(calls), [5 + 16, 2, 3, 7])

    def test_it_costs_that_the_cell_is_stepped_to_not_that_it_is_left(self):
        calls = [begin(3, 3, 1), pin(1, 1, 1, 0), pin(1, 1, 1, 2), route(1), pin(2, 1, 0, 1), pin(2, 1, 2, 1), soft(2)]
        self.assertEqual(last(calls), [1 + 8 + 1, 1, 1])

    def test_a_way_round_is_taken_if_it_is_cheaper(self):
        calls = [begin(5, 5, 1), pin(1, 1, 2, 0), pin(1, 1, 2, 2), route(1), pin(2, 1, 0, 0), pin(2, 1, 4, 0)]
        self.assertEqual(last(calls + [soft(2)]), [10, 0])
        self.assertEqual(last(calls + [costs(4, 2, 5), soft(2)]), [10, 0])
        self.assertEqual(last(calls + [costs(4, 2, 3), soft(2)]), [6 + 3, 1, 1])

    def test_a_step_to_another_layer_costs_what_the_whole_place_costs(self):
        for l in (3, 4):
            calls = [begin(3, 1, l), pin(1, l, 0, 0), pin(1, l, 2, 0), route(1), pin(2, 1, 1, 0), pin(2, 2, 1, 0)]
            self.assertEqual(last(calls + [route(2)]), [-14])
            self.assertEqual(last(calls + [soft(2)]), [4 + 8, 1, 1])

    def test_both_ends_of_a_step_to_another_layer_count(self):
        self.assertEqual(last(GATE + [soft(2)]), [(1 + 8) + (4 + 8 + 8) + 1, 2, 1, 3])
        self.assertEqual(last(GATE + [costs(5, 2, 100), soft(2)]), [(1 + 100) + (5 + 200) + 1, 2, 1, 3])

    def test_a_step_to_another_layer_still_needs_cells_that_are_not_blocked(self):
        calls = [begin(1, 1, 3), pin(1, 1, 0, 0), pin(1, 2, 0, 0)]
        self.assertEqual(last(calls + [block(3, 0, 0), soft(1)]), [-14])
        self.assertEqual(last(calls + [pin(2, 3, 0, 0), soft(1)]), [-14])

    def test_what_is_reached_costs_nothing_again(self):
        calls = CROSSED + [pin(2, 1, 4, 0)]
        self.assertEqual(last(calls + [soft(2)]), [4 + 8 + 1, 1, 1])

    def test_own_pins_cost_nothing_extra(self):
        beside = [begin(4, 1, 2), pin(2, 1, 0, 0, 1, 0), pin(2, 1, 2, 0, 3, 0), pin(1, 2, 0, 0), pin(1, 2, 3, 0),
                  route(1), soft(2)]
        self.assertEqual(last(beside), [1, 0])
        board = board_behind(CROSSED)
        self.assertEqual(board.extra_cost(2, board.grid.box_cells([1, 2, 1, 2, 1])[0]), 8)
        own = board.pins[2][1][0]
        board.takers[own] = 1
        self.assertEqual(board.extra_cost(2, own), 0)

    def test_a_net_ripped_by_tries_costs_more(self):
        board = board_behind(CROSSED)
        board.rips[1] = 2
        self.assertEqual(soft_on(board, 2), [4 + 8 * 3, 1, 1])
        board.rips[2] = 9
        self.assertEqual(soft_on(board, 2), [4 + 8 * 3, 1, 1])

    def test_each_cell_costs_by_the_rips_of_its_own_net(self):
        board = board_behind(GATE)
        board.rips[1] = 1
        board.rips[3] = 4
        self.assertEqual(soft_on(board, 2), [(1 + 16) + (4 + 16 + 40) + 1, 2, 1, 3])


class Others(unittest.TestCase):

    def test_they_are_in_order_each_once(self):
        walls = []
        for k, net in enumerate((30, 4, 12, 9)):
            walls += [pin(net, 1, 2 * k + 1, 0), pin(net, 1, 2 * k + 1, 4), route(net)]
        calls = [begin(9, 5, 1)] + walls + [pin(5, 1, 0, 2), pin(5, 1, 8, 1), pin(5, 1, 8, 3), soft(5)]
        self.assertEqual(last(calls)[1:], [4, 4, 9, 12, 30])

    def test_nets_that_are_not_in_the_way_are_not_told(self):
        calls = CROSSED + [pin(3, 1, 0, 0), pin(3, 1, 1, 0), route(3), pin(4, 1, 4, 2), soft(2)]
        self.assertEqual(last(calls), [12, 1, 1])

    def test_a_net_at_the_place_of_a_step_to_another_layer_is_told(self):
        calls = [begin(3, 1, 4), pin(9, 4, 0, 0), pin(9, 4, 2, 0), route(9), pin(8, 3, 0, 0), pin(8, 3, 2, 0), route(8),
                 pin(2, 1, 1, 0), pin(2, 2, 1, 0), soft(2)]
        self.assertEqual(last(calls), [4 + 16, 2, 8, 9])


class NothingChanges(unittest.TestCase):

    def test_soft_lays_and_rips_nothing(self):
        calls = CROSSED + [soft(2)]
        self.assertEqual(held(calls, 5, 3, 1), held(CROSSED, 5, 3, 1))
        self.assertEqual(ask(calls + [soft(2), route(2), rip(2), rip(1), route(2)])[-5:],
                         [[12, 1, 1], [-14], [-8], [0], [4]])

    def test_rips_stay(self):
        self.assertEqual(board_behind(CROSSED + [soft(2)]).rips, [0] * 33)


if __name__ == "__main__":
    unittest.main()
