import unittest

from tests.helper import BIG, ask, begin, block, board_behind, costs, drop, held, last, pin, prefer, rip, route, ways


class Refusals(unittest.TestCase):

    def test_nets_beyond_the_range_are_refused(self):
        for good in (1, 32):
            self.assertEqual(last([pin(good, 1, 0, 0), route(good)]), [0])
            self.assertEqual(last([pin(good, 1, 0, 0), route(good), rip(good)]), [0])
        for bad in (-BIG, -1, 0, 33, BIG):
            self.assertEqual(ask([route(bad), rip(bad)]), [[-5], [-5]])

    def test_a_net_that_is_laid_is_not_routed(self):
        calls = [pin(1, 1, 0, 0), pin(1, 1, 3, 0), route(1), route(1)]
        self.assertEqual(last(calls), [-7])
        self.assertEqual(ways(calls, 1), ways(calls[:-1], 1))

    def test_a_net_without_pins_is_not_routed(self):
        self.assertEqual(last([route(1)]), [-9])
        self.assertEqual(last([pin(1, 1, 0, 0), drop(1), route(1)]), [-9])
        self.assertEqual(ask([route(1), rip(1)]), [[-9], [-8]])

    def test_a_net_without_a_tree_is_not_routed(self):
        walled = [begin(5, 3, 1), block(1, 3, 0, 3, 2), pin(1, 1, 0, 0), pin(1, 1, 2, 0), pin(1, 1, 4, 0)]
        calls = walled + [route(1)]
        self.assertEqual(last(calls), [-14])
        self.assertEqual(held(calls, 5, 3, 1), [(1, 0, 0), (1, 2, 0), (1, 4, 0)])
        self.assertEqual(ask(calls + [route(1), rip(1), pin(1, 1, 1, 0)])[-3:], [[-14], [-8], [4]])

    def test_other_nets_pins_and_ways_can_leave_no_tree(self):
        row = [begin(5, 1, 1), pin(1, 1, 0, 0), pin(1, 1, 4, 0)]
        self.assertEqual(last(row + [pin(2, 1, 2, 0), route(1)]), [-14])
        cross = [begin(3, 3, 1), pin(1, 1, 1, 0), pin(1, 1, 1, 2), pin(2, 1, 0, 1), pin(2, 1, 2, 1)]
        self.assertEqual(ask(cross + [route(1), route(2)])[-2:], [[2], [-14]])
        self.assertEqual(ask(cross + [route(2), route(1)])[-2:], [[2], [-14]])
        self.assertEqual(ask(cross + [route(1), rip(1), route(2)])[-1], [2])


class Rip(unittest.TestCase):

    laid = [begin(4, 2, 2), pin(1, 1, 0, 0), pin(1, 2, 3, 0), route(1)]

    def test_the_net_is_not_laid_any_more(self):
        calls = self.laid + [rip(1)]
        self.assertEqual(last(calls), [0])
        self.assertEqual(held(calls, 4, 2, 2), [(1, 0, 0), (2, 3, 0)])
        self.assertEqual(last(calls + [rip(1)]), [-8])
        self.assertEqual(last(calls + [route(1)]), [7])
        self.assertEqual(last(calls + [drop(1)]), [2])

    def test_other_nets_stay(self):
        calls = self.laid + [pin(2, 1, 0, 1), pin(2, 1, 2, 1), route(2), rip(1)]
        self.assertEqual(held(calls, 4, 2, 2), [(1, 0, 0), (1, 0, 1), (1, 1, 1), (1, 2, 1), (2, 3, 0)])

    def test_a_net_that_is_not_laid_is_refused(self):
        self.assertEqual(last([rip(1)]), [-8])
        self.assertEqual(last(self.laid + [rip(2)]), [-8])
        self.assertEqual(held(self.laid + [rip(2)], 4, 2, 2), held(self.laid, 4, 2, 2))

    def test_its_rips_stays(self):
        board = board_behind(self.laid)
        board.rips[1] = 3
        board.unlay(1)
        self.assertEqual(board.rips[1], 3)
        self.assertEqual(board_behind(self.laid + [rip(1)]).rips[1], 0)


class TreesOfPins(unittest.TestCase):

    def test_one_pin_costs_0_and_has_no_ways(self):
        for box in ((1, 1, 1), (0, 0, 0, 2, 2), (2, 0, 0, 1, 0)):
            calls = [begin(3, 3, 2), pin(1, *box), route(1)]
            self.assertEqual(last(calls), [0])
            self.assertEqual(ways(calls, 1), [])
            self.assertEqual(held(calls, 3, 3, 2), held(calls[:-1], 3, 3, 2))

    def test_two_pins_are_joined_from_the_target_back(self):
        calls = [begin(5, 1, 1), pin(1, 1, 0, 0), pin(1, 1, 3, 0), route(1)]
        self.assertEqual(last(calls), [3])
        self.assertEqual(ways(calls, 1), [[(1, 3, 0), (1, 2, 0), (1, 1, 0), (1, 0, 0)]])
        self.assertEqual(held(calls, 5, 1, 1), [(1, 0, 0), (1, 1, 0), (1, 2, 0), (1, 3, 0)])

    def test_pins_that_overlap_are_joined_by_a_way_of_one_cell(self):
        calls = [begin(5, 1, 1), pin(1, 1, 0, 0, 2, 0), pin(1, 1, 2, 0, 4, 0), route(1)]
        self.assertEqual(last(calls), [0])
        self.assertEqual(ways(calls, 1), [[(1, 2, 0)]])

    def test_a_way_of_one_cell_takes_that_cell_alone(self):
        calls = [begin(3, 1, 3), pin(1, 2, 0, 0, 1, 0), pin(1, 2, 1, 0, 2, 0), route(1)]
        self.assertEqual(last(calls), [0])
        self.assertEqual(held(calls, 3, 1, 3), [(2, 0, 0), (2, 1, 0), (2, 2, 0)])

    def test_a_row_of_pins_that_overlap(self):
        calls = [begin(5, 1, 1), pin(1, 1, 0, 0, 1, 0), pin(1, 1, 1, 0, 2, 0), pin(1, 1, 2, 0, 3, 0),
                 pin(1, 1, 4, 0), route(1)]
        self.assertEqual(last(calls), [1])
        self.assertEqual(ways(calls, 1), [[(1, 1, 0)], [(1, 2, 0)], [(1, 4, 0), (1, 3, 0)]])

    def test_all_pins_that_hold_the_target_are_reached_by_one_way(self):
        calls = [begin(4, 1, 1), pin(1, 1, 0, 0), pin(1, 1, 2, 0), pin(1, 1, 2, 0, 3, 0), pin(1, 1, 1, 0, 2, 0),
                 pin(1, 1, 0, 0), route(1)]
        self.assertEqual(last(calls), [1])
        self.assertEqual(ways(calls, 1), [[(1, 0, 0)], [(1, 1, 0), (1, 0, 0)], [(1, 2, 0)]])

    def test_a_pin_of_many_cells_is_left_and_reached_where_it_is_nearest(self):
        calls = [begin(7, 3, 1), pin(1, 1, 0, 0, 2, 2), pin(1, 1, 5, 1, 6, 2), route(1)]
        self.assertEqual(last(calls), [3])
        self.assertEqual(ways(calls, 1), [[(1, 5, 1), (1, 4, 1), (1, 3, 1), (1, 2, 1)]])

    def test_all_cells_of_a_pin_are_reached_with_its_target(self):
        calls = [begin(5, 3, 1), pin(1, 1, 0, 0), pin(1, 1, 2, 0, 2, 2), pin(1, 1, 4, 2), route(1)]
        self.assertEqual(last(calls), [4])
        self.assertEqual(ways(calls, 1)[1], [(1, 4, 2), (1, 3, 2), (1, 2, 2)])

    def test_what_a_way_takes_is_reached(self):
        calls = [begin(5, 3, 1), pin(1, 1, 0, 0), pin(1, 1, 4, 0), pin(1, 1, 2, 2), route(1)]
        self.assertEqual(last(calls), [6])
        self.assertEqual(ways(calls, 1)[1], [(1, 2, 2), (1, 2, 1), (1, 2, 0)])
        for x in range(5):
            calls = [begin(5, 9, 1), pin(1, 1, 0, 0), pin(1, 1, 4, 0), pin(1, 1, x, 8), route(1)]
            self.assertEqual(last(calls), [12])
            self.assertEqual(ways(calls, 1)[1], [(1, x, y) for y in range(8, -1, -1)])

    def test_a_pin_told_on_all_layers_is_on_each(self):
        for layer in (1, 2, 3, 4):
            calls = [begin(3, 1, 4), pin(1, 0, 0, 0), pin(1, layer, 2, 0), route(1)]
            self.assertEqual(last(calls), [2])
            calls = [begin(3, 1, 4), pin(1, layer, 2, 0), pin(1, 0, 0, 0), route(1)]
            self.assertEqual(last(calls), [2])
            self.assertEqual(ways(calls, 1), [[(layer, 0, 0), (layer, 1, 0), (layer, 2, 0)]])

    def test_the_first_pin_is_the_one_told_first(self):
        calls = [begin(4, 1, 1), pin(1, 1, 3, 0), pin(1, 1, 0, 0), route(1)]
        self.assertEqual(ways(calls, 1), [[(1, 0, 0), (1, 1, 0), (1, 2, 0), (1, 3, 0)]])

    def test_sixteen_pins(self):
        pins = [pin(1, 1, 5 * (k % 4), 5 * (k // 4)) for k in range(16)]
        self.assertEqual(last([begin(16, 16, 1)] + pins + [route(1)]), [75])

    def test_a_long_way(self):
        walls = [block(1, row // 2 % 2, row, 22 + row // 2 % 2, row) for row in range(1, 23, 2)]
        calls = [begin(24, 23, 1)] + walls + [pin(1, 1, 0, 0), pin(1, 1, 0, 22), route(1)]
        self.assertEqual(last(calls), [12 * 23 + 22])


class Ties(unittest.TestCase):

    def test_of_several_targets_the_first_in_order(self):
        around = [pin(1, 1, 2, 4), pin(1, 1, 4, 2), pin(1, 1, 0, 2), pin(1, 1, 2, 0)]
        calls = [begin(5, 5, 1), pin(1, 1, 2, 2)] + around + [route(1)]
        self.assertEqual(last(calls), [8])
        self.assertEqual([way[0] for way in ways(calls, 1)], [(1, 2, 0), (1, 0, 2), (1, 4, 2), (1, 2, 4)])

    def test_a_layer_before_comes_before_y_and_x(self):
        calls = [begin(2, 1, 2), costs(1, 2, 8), pin(1, 2, 0, 0), pin(1, 2, 1, 0), pin(1, 1, 0, 0), route(1)]
        self.assertEqual(ways(calls, 1), [[(1, 0, 0), (2, 0, 0)], [(2, 1, 0), (2, 0, 0)]])

    def test_of_several_cells_of_one_pin_the_first_in_order(self):
        calls = [begin(3, 3, 1), pin(1, 1, 0, 0, 0, 2), pin(1, 1, 2, 0, 2, 2), route(1)]
        self.assertEqual(ways(calls, 1), [[(1, 2, 0), (1, 1, 0), (1, 0, 0)]])

    def test_back_along_x_before_y(self):
        calls = [begin(3, 2, 1), pin(1, 1, 0, 0), pin(1, 1, 2, 1), route(1)]
        self.assertEqual(held(calls, 3, 2, 1), [(1, 0, 0), (1, 0, 1), (1, 1, 1), (1, 2, 1)])
        calls = [begin(3, 2, 1), pin(1, 1, 2, 1), pin(1, 1, 0, 0), route(1)]
        self.assertEqual(held(calls, 3, 2, 1), [(1, 0, 0), (1, 1, 0), (1, 2, 0), (1, 2, 1)])

    def test_back_to_x_less_before_x_more(self):
        calls = [begin(3, 3, 1), block(1, 1, 1), pin(1, 1, 1, 0), pin(1, 1, 1, 2), route(1)]
        self.assertEqual(ways(calls, 1), [[(1, 1, 2), (1, 0, 2), (1, 0, 1), (1, 0, 0), (1, 1, 0)]])

    def test_back_to_y_less_before_y_more(self):
        calls = [begin(3, 3, 1), block(1, 1, 1), pin(1, 1, 0, 1), pin(1, 1, 2, 1), route(1)]
        self.assertEqual(ways(calls, 1), [[(1, 2, 1), (1, 2, 0), (1, 1, 0), (1, 0, 0), (1, 0, 1)]])

    def test_back_on_the_layer_before_another_layer(self):
        cheap = costs(1, 2, 8)
        calls = [begin(2, 1, 2), cheap, pin(1, 1, 0, 0), pin(1, 2, 1, 0), route(1)]
        self.assertEqual(ways(calls, 1), [[(2, 1, 0), (2, 0, 0), (1, 0, 0)]])
        calls = [begin(1, 2, 2), cheap, pin(1, 1, 0, 1), pin(1, 2, 0, 0), route(1)]
        self.assertEqual(ways(calls, 1), [[(2, 0, 0), (2, 0, 1), (1, 0, 1)]])

    def test_back_to_the_layer_before_before_the_next_layer(self):
        calls = [begin(3, 1, 3), block(2, 1, 0), pin(1, 0, 0, 0), pin(1, 2, 2, 0), route(1)]
        self.assertEqual(last(calls), [6])
        self.assertEqual(ways(calls, 1), [[(2, 2, 0), (1, 2, 0), (1, 1, 0), (1, 0, 0)]])


class StepsToAnotherLayer(unittest.TestCase):

    def test_they_take_all_cells_of_the_place(self):
        for l in (2, 3, 4):
            calls = [begin(2, 1, l), pin(1, 1, 0, 0), pin(1, 2, 0, 0), route(1)]
            self.assertEqual(last(calls), [4])
            self.assertEqual(held(calls, 2, 1, l), [(layer, 0, 0) for layer in range(1, l + 1)])
            self.assertEqual(held(calls + [rip(1)], 2, 1, l), [(1, 0, 0), (2, 0, 0)])

    def test_what_they_take_another_net_may_not_use(self):
        calls = [begin(2, 1, 4), pin(1, 1, 0, 0), pin(1, 2, 0, 0), route(1)]
        self.assertEqual(ask(calls + [pin(2, 3, 0, 0), pin(2, 4, 0, 0), pin(2, 4, 1, 0)])[-3:], [[-11], [-11], [1]])

    def test_they_need_all_cells_of_the_place(self):
        for l in (3, 4):
            for hindrance in (block(l, 0, 0), pin(2, l, 0, 0)):
                calls = [begin(2, 1, l), pin(1, 1, 0, 0), pin(1, 2, 0, 0), hindrance, route(1)]
                self.assertEqual(last(calls), [6])
                self.assertEqual(ways(calls, 1), [[(2, 0, 0), (2, 1, 0), (1, 1, 0), (1, 0, 0)]])
                taken = [(1, 0, 0), (2, 0, 0)] + [(layer, 1, 0) for layer in range(1, l + 1)]
                before = held(calls[:-1], 2, 1, l)
                self.assertEqual(held(calls, 2, 1, l), sorted(set(before + taken)))

    def test_a_cell_taken_on_another_layer_hinders_them(self):
        for l in (3, 4):
            calls = [begin(3, 1, l), pin(2, l, 0, 0), pin(2, l, 2, 0), route(2), pin(1, 1, 1, 0), pin(1, 2, 1, 0)]
            self.assertEqual(last(calls + [route(1)]), [-14])
            self.assertEqual(last(calls + [rip(2), route(1)]), [4])

    def test_own_pins_at_the_place_do_not_hinder_them(self):
        calls = [begin(1, 1, 4), pin(1, 1, 0, 0), pin(1, 4, 0, 0), route(1)]
        self.assertEqual(last(calls), [12])
        self.assertEqual(ways(calls, 1), [[(4, 0, 0), (3, 0, 0), (2, 0, 0), (1, 0, 0)]])

    def test_a_pin_that_a_way_only_passes_is_reached_later_by_a_way_of_one_cell(self):
        calls = [begin(1, 1, 3), pin(1, 1, 0, 0), pin(1, 3, 0, 0), pin(1, 2, 0, 0), route(1)]
        self.assertEqual(last(calls), [4])
        self.assertEqual(ways(calls, 1), [[(2, 0, 0), (1, 0, 0)], [(3, 0, 0)]])

    def test_what_they_take_is_reached(self):
        calls = [begin(3, 1, 3), pin(1, 1, 0, 0), pin(1, 2, 0, 0), pin(1, 3, 2, 0), route(1)]
        self.assertEqual(last(calls), [6])
        self.assertEqual(ways(calls, 1)[1], [(3, 2, 0), (3, 1, 0), (3, 0, 0)])

    def test_a_detour_on_another_layer(self):
        calls = [begin(5, 1, 2), block(1, 2, 0), pin(1, 1, 0, 0), pin(1, 1, 4, 0), route(1)]
        self.assertEqual(last(calls), [12])
        self.assertEqual(last(calls[:1] + [costs(3, 2, 8)] + calls[1:]), [10])


class Directions(unittest.TestCase):

    def test_the_cheaper_way_is_taken_not_the_shorter(self):
        made = [begin(5, 5, 1), costs(4, 9, 8), prefer(1, 2), block(1, 1, 1, 3, 4)]
        self.assertEqual(last(made + [pin(1, 1, 0, 2), pin(1, 1, 4, 2), route(1)]), [2 + 4 * 9 + 2])

    def test_each_layer_is_used_for_its_direction(self):
        made = [begin(6, 6, 2), costs(1, 5, 8), prefer(1, 1), prefer(2, 2)]
        calls = made + [pin(1, 1, 0, 0), pin(1, 1, 5, 5), route(1)]
        self.assertEqual(last(calls), [12])
        way = ways(calls, 1)[0]
        for (layer, x, y), (layer2, x2, y2) in zip(way, way[1:]):
            self.assertTrue(layer != layer2 or (layer == 1 and y == y2) or (layer == 2 and x == x2))

    def test_nets_beside_one_another(self):
        made = [begin(5, 5, 1), pin(1, 1, 0, 2), pin(1, 1, 4, 2), pin(2, 1, 2, 0), pin(2, 1, 2, 4)]
        self.assertEqual(ask(made + [pin(3, 1, 0, 0), pin(3, 1, 0, 1), route(3), route(1)])[-2:], [[1], [4]])
        self.assertEqual(ask(made + [block(1, 3, 2), block(1, 1, 2), route(2), route(1)])[-2:], [[4], [-14]])


if __name__ == "__main__":
    unittest.main()
