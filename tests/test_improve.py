import unittest

from tests.helper import BIG, ask, auto, begin, block, costs, free, improve, last, order, pin, prefer, rip, rips, route
from tests.helper import seen, total, tree, ways

# Net 1 straight across leaves nothing to net 2; net 2 straight down leaves net 1 the last row.
PINS = [begin(5, 4, 1), pin(1, 1, 0, 1), pin(1, 1, 4, 1), pin(2, 1, 2, 0), pin(2, 1, 2, 2)]

# Either net may go straight and the other round it: net 1 round net 2 is 6, net 2 round net 1 is 8.
ROUND = [begin(7, 4, 1), block(1, 0, 0, 0, 3), block(1, 4, 1), pin(1, 1, 1, 1), pin(1, 1, 3, 1), pin(2, 1, 2, 0),
         pin(2, 1, 2, 2)]

# Only one of the two nets can be laid.
CROSSED = [begin(5, 3, 1), pin(1, 1, 2, 0), pin(1, 1, 2, 2), route(1), pin(2, 1, 0, 1), pin(2, 1, 4, 1)]


class Stays(unittest.TestCase):

    def test_no_nets_at_all(self):
        for budget in (0, 1, 1000):
            self.assertEqual(last([improve(budget)]), [1, 0])

    def test_fewer_unlaid_nets_though_the_sum_is_greater(self):
        calls = PINS + [route(1), improve(2)]
        self.assertEqual(last(calls[:-1] + [total()]), [1, 4])
        self.assertEqual(last(calls), [1, 0])
        self.assertEqual(ask(calls + [total(), tree(1), tree(2)])[-3:], [[2, 10], [8, 1, 9], [2, 1, 3]])
        self.assertEqual(rips(calls), {1: 0, 2: 0})

    def test_as_many_and_the_same_sum_by_the_same_ways(self):
        calls = PINS + [order(2, 1)]
        self.assertEqual(last(calls + [improve(3)]), [1, 0])
        self.assertEqual(ways(calls + [improve(3)], 1), ways(calls, 1))

    def test_as_many_and_the_same_sum_by_other_ways(self):
        made = [begin(3, 2, 1), block(1, 1, 1), pin(1, 1, 0, 0), pin(1, 1, 2, 1), route(1), free(1, 1, 1)]
        self.assertEqual(ways(made, 1), [[(1, 2, 1), (1, 2, 0), (1, 1, 0), (1, 0, 0)]])
        calls = made + [improve(1)]
        self.assertEqual(last(calls), [1, 0])
        self.assertEqual(ways(calls, 1), [[(1, 2, 1), (1, 1, 1), (1, 0, 1), (1, 0, 0)]])

    def test_as_many_and_a_smaller_sum(self):
        made = [begin(3, 2, 1), block(1, 1, 0), pin(1, 1, 0, 0), pin(1, 1, 2, 0), route(1), free(1, 1, 0)]
        self.assertEqual(ask(made + [total(), improve(1), total()])[-3:], [[1, 4], [1, 0], [1, 2]])
        self.assertEqual(ways(made + [improve(1)], 1), [[(1, 2, 0), (1, 1, 0), (1, 0, 0)]])

    def test_as_many_that_are_others(self):
        # Net 2 is tried first and laid; net 1 then rips it again with a third try.
        self.assertEqual(ask(CROSSED + [total(), improve(1), total()])[-3:], [[1, 2], [0, 1, 2], [1, 2]])
        self.assertEqual(ask(CROSSED + [improve(2), total()])[-2:], [[1, 1, 2], [1, 2]])
        self.assertEqual(rips(CROSSED + [improve(2)]), {1: 0, 2: 1})

    def test_rips_that_the_tries_made_stay_with_the_board(self):
        calls = PINS + [order(2, 1), improve(3)]
        self.assertEqual(rips(calls), {1: 1, 2: 0})
        self.assertEqual(rips(calls + [improve(3)]), {1: 2, 2: 0})

    def test_rips_from_before_stay(self):
        made = CROSSED + [auto(4)]
        self.assertEqual(rips(made), {1: 2, 2: 2})
        self.assertEqual(rips(made + [improve(2)]), {1: 2, 2: 3})

    def test_unlaid_nets_alone(self):
        self.assertEqual(last(PINS + [improve(0)]), [1, 2, 1, 2])
        self.assertEqual(last(PINS + [improve(1)]), [1, 1, 2])
        self.assertEqual(last(PINS + [improve(3)]), [1, 0])

    def test_a_net_that_is_laid_with_one_pin(self):
        made = [pin(1, 1, 0, 0), route(1)]
        self.assertEqual(last(made + [improve(1)]), [1, 0])
        self.assertEqual(last(made + [improve(0)]), [0, 0])
        self.assertEqual(last(made + [improve(0), tree(1)]), [0, 0, 0])

    def test_a_net_with_neither_tree_nor_soft_tree(self):
        made = [begin(5, 1, 1), block(1, 2, 0), pin(1, 1, 0, 0), pin(1, 1, 4, 0), pin(2, 1, 1, 0), route(2)]
        self.assertEqual(last(made + [improve(2)]), [1, 1, 1])
        self.assertEqual(last(made + [improve(1)]), [0, 1, 1])


class TheRow(unittest.TestCase):

    def test_those_that_were_unlaid_come_first(self):
        # With net 1 first it would be ripped by net 2, and a budget of 2 would leave it so.
        self.assertEqual(ask(PINS + [route(1), improve(2), total()])[-2:], [[1, 0], [2, 10]])

    def test_those_that_were_unlaid_are_in_order(self):
        made = [begin(6, 1, 1), pin(9, 1, 0, 0), pin(4, 1, 2, 0), pin(32, 1, 4, 0)]
        self.assertEqual(last(made + [improve(1)]), [1, 2, 9, 32])
        self.assertEqual(last(made + [improve(2)]), [1, 1, 32])

    def test_those_that_were_laid_are_in_order_whenever_they_were_laid(self):
        # Net 1 goes straight first, though net 2 was laid first: then net 2 must rip it, or go round it.
        self.assertEqual(rips(PINS + [order(2, 1), improve(3)]), {1: 1, 2: 0})
        self.assertEqual(last(ROUND + [order(2, 1), improve(2)]), [0, 0])
        self.assertEqual(last(ROUND + [order(1, 2), improve(2)]), [1, 0])

    def test_as_many_unlaid_as_before_are_others_by_the_order_of_the_row(self):
        # Unlaid were 3 and 4, laid 1 and 2: a budget of 2 lays 3 and 4 and leaves 1 and 2.
        made = [begin(8, 1, 1), pin(1, 1, 0, 0), pin(2, 1, 2, 0), pin(3, 1, 4, 0), pin(4, 1, 6, 0), order(1, 2)]
        self.assertEqual(last(made + [improve(2)]), [1, 2, 1, 2])
        self.assertEqual(last(made + [improve(3)]), [1, 1, 2])


class AgainAsBefore(unittest.TestCase):

    def check_is_as_before(self, made, budget, w, h, l=1):
        before = seen(made, w, h, l)
        calls = made + [improve(budget)]
        self.assertEqual(last(calls), [0] + before[1])
        self.assertEqual(seen(calls, w, h, l), before)

    def test_a_budget_of_0(self):
        self.check_is_as_before(PINS + [route(1)], 0, 5, 4)
        self.check_is_as_before(PINS + [order(2, 1)], 0, 5, 4)
        self.check_is_as_before(CROSSED + [auto(4)], 0, 5, 3)

    def test_more_unlaid_nets(self):
        self.check_is_as_before(ROUND + [order(1, 2)], 1, 7, 4)
        self.check_is_as_before(CROSSED, 1, 5, 3)

    def test_places_that_steps_to_other_layers_take(self):
        made = [begin(4, 2, 3), block(1, 1, 0), pin(1, 1, 0, 0), pin(1, 1, 3, 0), pin(1, 2, 0, 0), pin(2, 1, 0, 1),
                pin(2, 2, 1, 1), pin(3, 3, 3, 0), order(2, 1)]
        for budget in (0, 1):
            self.check_is_as_before(made, budget, 4, 2, 3)

    def test_more_unlaid_nets_behind_rips(self):
        made = PINS + [order(2, 1)]
        self.check_is_as_before(made, 2, 5, 4)
        self.assertEqual(rips(made + [improve(2)]), {1: 0, 2: 0})

    def test_as_many_and_a_greater_sum(self):
        made = ROUND + [order(2, 1)]
        self.assertEqual(last(made + [total()]), [2, 8])
        self.assertEqual(last(ROUND + [order(1, 2), total()]), [2, 10])
        for budget in (2, 3, 1000):
            self.check_is_as_before(made, budget, 7, 4)

    def test_what_is_done_behind_it_is_done_on_the_board_as_it_was(self):
        made = PINS + [order(2, 1)]
        after = [rip(1), rip(2), order(1, 2), improve(9), total()]
        self.assertEqual(ask(made + [improve(0)] + after)[-5:], ask(made + after)[-5:])
        twice = made + [improve(0), improve(2), improve(0)]
        self.assertEqual(seen(twice, 5, 4, 1), seen(made, 5, 4, 1))
        self.assertEqual(last(twice + [improve(3)]), [1, 0])

    def test_what_was_as_before_is_not_kept_once_more(self):
        calls = PINS + [order(2, 1), improve(0), rip(1), improve(0), rip(2)]
        self.assertEqual(ask(calls)[-4:], [[0, 0], [0], [0, 1, 1], [0]])
        self.assertEqual(last(calls + [order(1)]), [1, 2])


class TheSum(unittest.TestCase):

    def test_costs_as_they_are_now_make_the_sum_before_greater(self):
        # Laid over layer 2 for 6; with dear steps to other layers that is 24, and the way round is 8.
        made = [begin(5, 3, 2), costs(1, 2, 8), block(1, 2, 0, 2, 1), pin(1, 1, 0, 0), pin(1, 1, 4, 0), route(1)]
        self.assertEqual(ask(made + [total(), costs(10, 2, 8), total()])[-3:], [[1, 6], [0], [1, 24]])
        self.assertEqual(ask(made + [costs(10, 2, 8), improve(1), total()])[-2:], [[1, 0], [1, 8]])

    def test_directions_as_they_are_now_make_the_sum_before_less(self):
        # Laid for 2006, which is 8 without the direction: less than what the tries come to.
        made = [*ROUND, costs(4, 1000, 8), prefer(1, 2), order(2, 1)]
        self.assertEqual(ask(made + [total(), prefer(1, 0), total()])[-3:], [[2, 2006], [0], [2, 8]])
        self.assertEqual(ask(made + [prefer(1, 0), improve(9), total()])[-2:], [[0, 0], [2, 8]])

    def test_nothing_extra_counts(self):
        # Net 2 is laid through net 1 by a soft tree whose cost is 10; what counts are its 2 steps.
        calls = PINS + [order(2, 1), costs(4, 2, 1000), improve(3)]
        self.assertEqual(ask(calls + [total()])[-2:], [[1, 0], [2, 10]])


class Refusals(unittest.TestCase):

    def test_budgets_beyond_the_range_are_refused(self):
        for good in (0, 1, 1000):
            self.assertEqual(last([improve(good)]), [1, 0])
        for bad in (-BIG, -1, 1001, BIG):
            self.assertEqual(last([improve(bad)]), [-12])

    def test_a_refusal_changes_nothing(self):
        made = PINS + [route(1)]
        for bad in (-1, 1001):
            self.assertEqual(seen(made + [improve(bad)], 5, 4, 1), seen(made, 5, 4, 1))


if __name__ == "__main__":
    unittest.main()
