import unittest

from tests.helper import BIG, ask, begin, block, cost, costs, free, last, pin, prefer, rip, route, seen

SMALL = [begin(4, 3, 2)]

# Net 1 is laid across the middle row of the one layer.
LAID = [begin(4, 3, 1), pin(1, 1, 0, 1), pin(1, 1, 3, 1), route(1)]


class Rows(unittest.TestCase):

    def test_the_least_sum_of_steps(self):
        self.assertEqual(last(SMALL + [cost(1, (1, 0, 0), (1, 3, 2))]), [5])
        self.assertEqual(last(SMALL + [cost(1, (1, 3, 2), (1, 0, 0))]), [5])
        self.assertEqual(last(SMALL + [cost(1, (2, 3, 2), (1, 0, 0))]), [9])
        self.assertEqual(last([begin(24, 24, 4), cost(32, (1, 0, 0), (4, 23, 23))]), [46 + 12])

    def test_from_a_cell_to_itself(self):
        self.assertEqual(last(SMALL + [cost(1, (2, 1, 1), (2, 1, 1))]), [0])
        self.assertEqual(last([begin(1, 1, 1), cost(1, (1, 0, 0), (1, 0, 0))]), [0])
        self.assertEqual(last(LAID + [cost(1, (1, 2, 1), (1, 2, 1))]), [0])

    def test_the_net_needs_no_pins(self):
        self.assertEqual(last(LAID + [cost(9, (1, 0, 0), (1, 3, 0))]), [3])

    def test_costs_and_directions_as_they_are_now(self):
        calls = SMALL + [costs(3, 10, 8), prefer(1, 2)]
        self.assertEqual(last(calls + [cost(1, (1, 0, 0), (1, 3, 0))]), [3 + 3 + 3])
        self.assertEqual(last(calls + [prefer(2, 2), cost(1, (1, 0, 0), (1, 3, 0))]), [30])
        self.assertEqual(last(calls + [prefer(1, 1), cost(1, (1, 0, 0), (1, 3, 0))]), [3])
        self.assertEqual(last(calls + [cost(1, (1, 0, 0), (1, 0, 2))]), [2])

    def test_a_detour_round_blocked_cells(self):
        calls = [begin(3, 3, 1), block(1, 1, 0, 1, 1), cost(1, (1, 0, 0), (1, 2, 0))]
        self.assertEqual(last(calls), [6])
        self.assertEqual(last(calls[:-1] + [free(1, 1, 0)] + calls[-1:]), [2])

    def test_no_row_of_steps(self):
        calls = [begin(3, 3, 1), block(1, 1, 0, 1, 2), cost(1, (1, 0, 0), (1, 2, 0))]
        self.assertEqual(last(calls), [-14])

    def test_what_other_nets_take_and_their_pins_are_not_passed(self):
        across = ((1, 1, 0), (1, 1, 2))
        self.assertEqual(last(LAID + [cost(2, *across)]), [-14])
        self.assertEqual(last(LAID + [rip(1), cost(2, *across)]), [2])
        walled = [begin(3, 3, 1), pin(1, 1, 0, 1, 2, 1)]
        self.assertEqual(last(walled + [cost(2, *across)]), [-14])

    def test_what_the_net_itself_takes_and_its_pins_are_passed(self):
        self.assertEqual(last(LAID + [cost(1, (1, 1, 0), (1, 1, 2))]), [2])
        self.assertEqual(last(LAID + [cost(1, (1, 0, 1), (1, 3, 1))]), [3])
        self.assertEqual(last(LAID + [rip(1), cost(1, (1, 0, 1), (1, 3, 1))]), [3])

    def test_pins_of_the_net_join_nothing(self):
        split = [begin(5, 1, 1), block(1, 1, 0), pin(1, 1, 0, 0), free(1, 1, 0), block(1, 3, 0), pin(1, 1, 4, 0)]
        self.assertEqual(last(split + [cost(1, (1, 0, 0), (1, 4, 0))]), [-14])
        wide = [begin(5, 1, 1), pin(1, 1, 0, 0, 4, 0), cost(1, (1, 0, 0), (1, 4, 0))]
        self.assertEqual(last(wide), [4])

    def test_a_step_to_another_layer_needs_all_cells_of_the_place(self):
        for l in (3, 4):
            up = cost(1, (1, 0, 0), (2, 0, 0))
            self.assertEqual(last([begin(2, 1, l), up]), [4])
            for hindrance in (block(l, 0, 0), pin(2, l, 0, 0)):
                self.assertEqual(last([begin(2, 1, l), hindrance, up]), [6])
            self.assertEqual(last([begin(2, 1, l), block(l, 0, 0, 1, 0), up]), [-14])
            self.assertEqual(last([begin(2, 1, l), pin(1, l, 0, 0, 1, 0), up]), [4])
            taken = [begin(2, 1, l), pin(2, l, 0, 0), pin(2, l, 1, 0), route(2)]
            self.assertEqual(last(taken + [up]), [-14])

    def test_both_ends_of_a_step_to_another_layer_may_be_of_one_place(self):
        self.assertEqual(last([begin(1, 1, 4), cost(1, (4, 0, 0), (1, 0, 0))]), [12])


class EndsThatTheNetMayNotUse(unittest.TestCase):

    def test_at_either_end_or_both(self):
        for hindrance in ([block(1, 1, 1)], [pin(2, 1, 1, 1)], [pin(2, 1, 0, 1), pin(2, 1, 2, 1), route(2)]):
            calls = SMALL + hindrance
            self.assertEqual(last(calls + [cost(1, (1, 1, 1), (1, 1, 0))]), [-14])
            self.assertEqual(last(calls + [cost(1, (1, 1, 0), (1, 1, 1))]), [-14])
            self.assertEqual(last(calls + [cost(1, (1, 1, 1), (1, 1, 1))]), [-14])
        self.assertEqual(last(SMALL + [block(1, 1, 1), cost(1, (2, 1, 1), (2, 1, 0))]), [1])

    def test_a_cell_that_another_net_takes_with_a_step_to_another_layer(self):
        calls = [begin(2, 1, 3), pin(2, 1, 0, 0), pin(2, 2, 0, 0), route(2)]
        self.assertEqual(last(calls + [cost(1, (3, 0, 0), (3, 1, 0))]), [-14])
        self.assertEqual(last(calls + [cost(1, (3, 1, 0), (3, 0, 0))]), [-14])
        self.assertEqual(last(calls + [cost(2, (3, 0, 0), (3, 1, 0))]), [1])


class Refusals(unittest.TestCase):

    def test_layers_beyond_the_range_are_refused(self):
        for good in (1, 2):
            self.assertEqual(last(SMALL + [cost(1, (good, 0, 0), (good, 1, 0))]), [1])
        for bad in (-BIG, -1, 0, 3, BIG):
            self.assertEqual(last(SMALL + [cost(1, (bad, 0, 0), (1, 1, 0))]), [-3])
            self.assertEqual(last(SMALL + [cost(1, (1, 0, 0), (bad, 1, 0))]), [-3])

    def test_nets_beyond_the_range_are_refused(self):
        for good in (1, 32):
            self.assertEqual(last(SMALL + [cost(good, (1, 0, 0), (1, 1, 0))]), [1])
        for bad in (-BIG, -1, 0, 33, BIG):
            self.assertEqual(last(SMALL + [cost(bad, (1, 0, 0), (1, 1, 0))]), [-5])

    def test_x_and_y_beyond_the_range_are_refused(self):
        self.assertEqual(last(SMALL + [cost(1, (1, 0, 0), (1, 3, 2))]), [5])
        wrong = [(1, bad, 0) for bad in (-BIG, -1, 4, BIG)] + [(1, 0, bad) for bad in (-BIG, -1, 3, BIG)]
        for bad in wrong:
            self.assertEqual(last(SMALL + [cost(1, bad, (1, 1, 0))]), [-6])
            self.assertEqual(last(SMALL + [cost(1, (1, 1, 0), bad)]), [-6])
            self.assertEqual(last(SMALL + [cost(1, bad, bad)]), [-6])

    def test_of_several_refusals_the_one_nearest_to_0_is_answered(self):
        good, far, high = (1, 0, 0), (1, 4, 0), (3, 0, 0)
        self.assertEqual(last(SMALL + [cost(0, good, high)]), [-3])
        self.assertEqual(last(SMALL + [cost(33, high, good)]), [-3])
        self.assertEqual(last(SMALL + [cost(0, far, good)]), [-5])
        self.assertEqual(last(SMALL + [cost(33, good, far)]), [-5])
        self.assertEqual(last(SMALL + [cost(1, far, high)]), [-3])
        self.assertEqual(last(SMALL + [cost(1, high, far)]), [-3])
        self.assertEqual(last(SMALL + [cost(0, far, high)]), [-3])
        self.assertEqual(last(SMALL + [cost(1, (0, 9, 9), (1, 0, 0))]), [-3])
        blocked = SMALL + [block(1, 0, 0)]
        self.assertEqual(last(blocked + [cost(1, good, far)]), [-6])
        self.assertEqual(last(blocked + [cost(0, good, good)]), [-5])
        self.assertEqual(last(blocked + [cost(1, good, high)]), [-3])

    def test_nothing_changes(self):
        calls = LAID + [cost(1, (1, 0, 0), (1, 3, 2)), cost(2, (1, 0, 0), (1, 3, 2)), cost(1, (2, 0, 0), (1, 0, 0)),
                        cost(0, (1, 0, 0), (1, 0, 0)), cost(1, (1, 0, 0), (1, 0, 3))]
        self.assertEqual(ask(calls)[4:], [[5], [-14], [-3], [-5], [-6]])
        self.assertEqual(seen(calls, 4, 3, 1), seen(LAID, 4, 3, 1))


if __name__ == "__main__":
    unittest.main()
