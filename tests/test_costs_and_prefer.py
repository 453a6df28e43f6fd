import unittest

from tests.helper import BIG, begin, costs, last, pin, prefer, rip, route, soft

# One layer with a net across, one step wide, so that a soft tree must go through it.
CROSSED = [begin(3, 3, 1), pin(1, 1, 1, 0), pin(1, 1, 1, 2), route(1), pin(2, 1, 0, 1), pin(2, 1, 2, 1)]


class Costs(unittest.TestCase):

    def test_they_cost_that_from_now_on(self):
        set_now = [begin(2, 1, 2), costs(7, 5, 3)]
        self.assertEqual(last(set_now), [0])
        self.assertEqual(last(set_now + [pin(1, 1, 0, 0), pin(1, 2, 0, 0), route(1)]), [7])
        self.assertEqual(last(set_now + [prefer(1, 2), pin(1, 1, 0, 0), pin(1, 1, 1, 0), route(1)]), [5])
        self.assertEqual(last(CROSSED + [costs(7, 5, 3), soft(2)]), [5, 1, 1])

    def test_a_way_that_is_laid_stays(self):
        laid = [begin(2, 1, 2), pin(1, 1, 0, 0), pin(1, 2, 0, 0), route(1), costs(9, 9, 9)]
        self.assertEqual(last(laid + [route(1)]), [-7])
        self.assertEqual(last(laid + [rip(1), route(1)]), [9])

    def test_the_edges_are_taken(self):
        for edge in (1, 1000):
            self.assertEqual(last([costs(edge, edge, edge)]), [0])
            up = [begin(1, 1, 2), costs(edge, 2, 2), pin(1, 1, 0, 0), pin(1, 2, 0, 0), route(1)]
            self.assertEqual(last(up), [edge])

    def test_beyond_the_range_is_refused(self):
        for bad in (-BIG, -1, 0, 1001, BIG):
            for call in (costs(bad, 2, 2), costs(2, bad, 2), costs(2, 2, bad), costs(bad, bad, bad)):
                self.assertEqual(last([call]), [-2])

    def test_a_refusal_changes_none_of_the_three(self):
        for refused in (costs(9, 9, 0), costs(0, 9, 9), costs(9, 0, 9)):
            up = [begin(1, 1, 2), refused, pin(1, 1, 0, 0), pin(1, 2, 0, 0), route(1)]
            self.assertEqual(last(up), [4])
            along = [begin(2, 1, 1), refused, prefer(1, 2), pin(1, 1, 0, 0), pin(1, 1, 1, 0), route(1)]
            self.assertEqual(last(along), [2])
            self.assertEqual(last(CROSSED + [refused, soft(2)]), [10, 1, 1])


class Prefer(unittest.TestCase):

    def cost(self, direction, x, y):
        calls = [begin(4, 4, 1), costs(4, 10, 8), prefer(1, direction), pin(1, 1, 0, 0), pin(1, 1, x, y), route(1)]
        return last(calls)

    def test_a_step_across_the_direction_costs_wrong(self):
        self.assertEqual(self.cost(1, 3, 0), [3])
        self.assertEqual(self.cost(1, 0, 3), [30])
        self.assertEqual(self.cost(2, 3, 0), [30])
        self.assertEqual(self.cost(2, 0, 3), [3])
        self.assertEqual(self.cost(1, 2, 1), [12])
        self.assertEqual(self.cost(2, 2, 1), [21])

    def test_direction_0_makes_every_step_cost_1(self):
        self.assertEqual(self.cost(0, 3, 0), [3])
        self.assertEqual(self.cost(0, 0, 3), [3])
        again = [begin(4, 1, 1), prefer(1, 2), prefer(1, 0), pin(1, 1, 0, 0), pin(1, 1, 3, 0), route(1)]
        self.assertEqual(last(again), [3])

    def test_only_that_layer_has_it(self):
        made = [begin(4, 1, 3), costs(1000, 9, 8), prefer(2, 2)]
        for layer, cost in ((1, 3), (2, 27), (3, 3)):
            self.assertEqual(last(made + [pin(1, layer, 0, 0), pin(1, layer, 3, 0), route(1)]), [cost])

    def test_a_step_to_another_layer_costs_via_whatever_the_direction(self):
        for direction in (0, 1, 2):
            made = [begin(1, 1, 2), prefer(1, direction), prefer(2, direction)]
            self.assertEqual(last(made + [pin(1, 1, 0, 0), pin(1, 2, 0, 0), route(1)]), [4])

    def test_a_layer_whose_direction_fits_is_changed_to_if_that_is_cheaper(self):
        made = [begin(8, 1, 2), costs(2, 3, 8), prefer(1, 2), prefer(2, 1)]
        self.assertEqual(last(made + [pin(1, 1, 0, 0), pin(1, 1, 7, 0), route(1)]), [2 + 7 + 2])

    def test_layers_beyond_the_range_are_refused(self):
        for l in (1, 2, 3, 4):
            self.assertEqual(last([begin(2, 2, l), prefer(1, 1)]), [0])
            self.assertEqual(last([begin(2, 2, l), prefer(l, 1)]), [0])
            for bad in (-BIG, -1, 0, l + 1, BIG):
                self.assertEqual(last([begin(2, 2, l), prefer(bad, 1)]), [-3])

    def test_directions_beyond_the_range_are_refused(self):
        for good in (0, 1, 2):
            self.assertEqual(last([prefer(2, good)]), [0])
        for bad in (-BIG, -1, 3, BIG):
            self.assertEqual(last([prefer(2, bad)]), [-4])

    def test_of_both_refusals_the_layers_is_answered(self):
        self.assertEqual(last([prefer(0, 3)]), [-3])
        self.assertEqual(last([prefer(3, -1)]), [-3])

    def test_a_refusal_changes_nothing(self):
        made = [begin(4, 1, 1), prefer(1, 2)]
        for refused in (prefer(1, 3), prefer(1, -1), prefer(0, 1), prefer(2, 1)):
            calls = made + [refused, pin(1, 1, 0, 0), pin(1, 1, 3, 0), route(1)]
            self.assertEqual(last(calls), [6])


if __name__ == "__main__":
    unittest.main()
