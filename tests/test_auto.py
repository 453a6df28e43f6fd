import unittest

from tests.helper import BIG, ask, auto, begin, block, cell, costs, drop, last, nets, pin, rip, rips, route, seen, soft
from tests.helper import tree, unlaid, ways

# Net 1 is laid down the middle column; net 2, with a pin on either side, can only go through it,
# and neither of the two can be laid beside the other.
CROSSED = [begin(5, 3, 1), pin(1, 1, 2, 0), pin(1, 1, 2, 2), route(1), pin(2, 1, 0, 1), pin(2, 1, 4, 1)]

# Net 5 across the walls of the nets 30, 4, 12 and 9.
WALLS = [begin(9, 5, 1)]
for k, net in enumerate((30, 4, 12, 9)):
    WALLS += [pin(net, 1, 2 * k + 1, 0), pin(net, 1, 2 * k + 1, 4), route(net)]
WALLS += [pin(5, 1, 0, 2), pin(5, 1, 8, 2)]

# Net 3 from left to right, through net 1 above or through net 2 below: as dear at first.
CHOICE = [begin(5, 7, 1), block(1, 2, 3), pin(1, 1, 2, 0), pin(1, 1, 2, 2), route(1), pin(2, 1, 2, 4), pin(2, 1, 2, 6),
          route(2), pin(3, 1, 0, 3), pin(3, 1, 4, 3)]


class WithoutRipping(unittest.TestCase):

    def test_no_nets_at_all(self):
        for budget in (0, 1, 1000):
            self.assertEqual(last([auto(budget)]), [0, 0])

    def test_the_row_is_the_unlaid_nets_in_order(self):
        some = [begin(8, 1, 1), pin(9, 1, 0, 0), pin(4, 1, 2, 0), pin(32, 1, 4, 0), pin(1, 1, 6, 0), route(4)]
        self.assertEqual(last(some + [auto(0)]), [0, 3, 1, 9, 32])
        self.assertEqual(last(some + [auto(1)]), [1, 2, 9, 32])
        self.assertEqual(last(some + [auto(2)]), [2, 1, 32])
        self.assertEqual(last(some + [auto(3)]), [3, 0])

    def test_tries_are_counted_not_the_budget(self):
        self.assertEqual(last([pin(1, 1, 0, 0), pin(2, 1, 1, 0), auto(1000)]), [2, 0])
        self.assertEqual(ask([pin(1, 1, 0, 0), auto(5), auto(5)])[1:], [[1, 0], [0, 0]])

    def test_a_budget_of_0_changes_nothing(self):
        self.assertEqual(last(CROSSED + [auto(0)]), [0, 1, 2])
        self.assertEqual(seen(CROSSED + [auto(0)], 5, 3, 1), seen(CROSSED, 5, 3, 1))

    def test_nets_are_laid_by_their_trees(self):
        made = [begin(6, 5, 2), block(1, 2, 0, 2, 3), pin(3, 1, 0, 0), pin(3, 1, 5, 1), pin(3, 2, 3, 4),
                pin(7, 1, 0, 4), pin(7, 1, 5, 4)]
        self.assertEqual(seen(made + [auto(9)], 6, 5, 2), seen(made + [route(3), route(7)], 6, 5, 2))

    def test_laid_nets_that_are_not_in_the_way_stay(self):
        made = CROSSED + [pin(3, 1, 0, 0), pin(3, 1, 1, 0), route(3)]
        self.assertEqual(ways(made + [auto(1)], 3), ways(made, 3))
        self.assertEqual(rips(made + [auto(1)])[3], 0)

    def test_a_net_with_neither_tree_nor_soft_tree_stays_and_counts_as_a_try(self):
        walled = [begin(5, 3, 1), block(1, 2, 0, 2, 2), pin(1, 1, 0, 0), pin(1, 1, 4, 0), pin(2, 1, 0, 1),
                  pin(2, 1, 1, 1)]
        self.assertEqual(last(walled + [auto(1)]), [1, 2, 1, 2])
        self.assertEqual(seen(walled + [auto(1)], 5, 3, 1), seen(walled, 5, 3, 1))
        self.assertEqual(last(walled + [auto(2)]), [2, 1, 1])
        self.assertEqual(ask(walled + [auto(1000), nets()])[-2:], [[2, 1, 1], [2, 1, 2, 0, 0, 2, 2, 1, 0]])

    def test_other_nets_pins_can_leave_no_soft_tree(self):
        row = [begin(5, 1, 1), pin(1, 1, 0, 0), pin(1, 1, 4, 0), pin(2, 1, 2, 0), route(2)]
        self.assertEqual(ask(row + [auto(9), nets()])[-2:], [[1, 1, 1], [2, 1, 2, 0, 0, 2, 1, 1, 0]])


class Ripping(unittest.TestCase):

    def test_the_other_is_ripped_and_the_net_laid_by_its_soft_tree(self):
        calls = CROSSED + [auto(1)]
        self.assertEqual(last(calls), [1, 1, 1])
        self.assertEqual(ask(calls + [nets(), tree(2), tree(1)])[-3:], [[2, 1, 2, 0, 1, 2, 2, 1, 0], [4, 1, 5], [-8]])
        self.assertEqual(ways(calls, 2), [[(1, 4, 1), (1, 3, 1), (1, 2, 1), (1, 1, 1), (1, 0, 1)]])
        self.assertEqual(ask(calls + [cell(1, 2, 1), cell(1, 2, 0), cell(1, 1, 0)])[-3:], [[3, 2], [2, 1], [0, 0]])

    def test_a_net_with_a_tree_rips_nothing_however_dear_it_is(self):
        made = [begin(5, 5, 1), costs(4, 2, 1), pin(1, 1, 2, 0), pin(1, 1, 2, 2), route(1), pin(2, 1, 0, 0),
                pin(2, 1, 4, 0)]
        self.assertEqual(last(made + [soft(2)]), [7, 1, 1])
        self.assertEqual(ask(made + [auto(1), tree(2)])[-2:], [[1, 0], [10, 1, 11]])

    def test_all_others_are_ripped_and_each_ones_rips_is_one_more(self):
        calls = WALLS + [auto(1)]
        self.assertEqual(last(calls), [1, 4, 4, 9, 12, 30])
        self.assertEqual(rips(calls), {4: 1, 5: 0, 9: 1, 12: 1, 30: 1})

    def test_others_go_to_the_end_of_the_row_in_order(self):
        # Net 4 rips net 5 again, which then stands behind 9, 12 and 30.
        left = {2: [5, 9, 12, 30], 3: [5, 12, 30], 4: [5, 30], 5: [5], 6: [4, 9, 12, 30], 7: [5, 9, 12, 30]}
        for budget in left:
            calls = WALLS + [auto(budget)]
            self.assertEqual(last(calls), [budget, len(left[budget])] + left[budget])
        self.assertEqual(rips(WALLS + [auto(7)]), {4: 2, 5: 2, 9: 2, 12: 2, 30: 2})

    def test_nets_that_stand_in_the_row_are_before_them(self):
        made = WALLS + [pin(31, 1, 0, 4), pin(32, 1, 0, 0)]
        self.assertEqual(last(made + [auto(2)]), [2, 5, 4, 9, 12, 30, 32])
        self.assertEqual(last(made + [auto(3)]), [3, 4, 4, 9, 12, 30])
        self.assertEqual(last(made + [auto(4)]), [4, 4, 5, 9, 12, 30])

    def test_a_net_at_the_place_of_a_step_to_another_layer_is_ripped(self):
        for l in (3, 4):
            made = [begin(3, 1, l), pin(1, l, 0, 0), pin(1, l, 2, 0), route(1), pin(2, 1, 1, 0), pin(2, 2, 1, 0)]
            self.assertEqual(ask(made + [auto(1), nets()])[-2:], [[1, 1, 1], [2, 1, 2, 0, 1, 2, 2, 1, 0]])
            self.assertEqual(last(made + [auto(1), cell(l, 1, 0)]), [3, 2])

    def test_a_ripped_net_is_tried_again_and_goes_round(self):
        made = [begin(5, 4, 1), pin(1, 1, 0, 1), pin(1, 1, 4, 1), route(1), pin(2, 1, 2, 0), pin(2, 1, 2, 2)]
        self.assertEqual(last(made + [auto(1)]), [1, 1, 1])
        self.assertEqual(ask(made + [auto(9), tree(1), tree(2)])[-3:], [[2, 0], [8, 1, 9], [2, 1, 3]])
        self.assertEqual(rips(made + [auto(9)]), {1: 1, 2: 0})


class Dearer(unittest.TestCase):

    def test_two_nets_rip_one_another_until_the_budget_is_used_up(self):
        for budget, left, first, second in ((2, 2, 1, 1), (3, 1, 2, 1), (999, 1, 500, 499), (1000, 2, 500, 500)):
            calls = CROSSED + [auto(budget)]
            self.assertEqual(last(calls), [budget, 1, left])
            self.assertEqual(rips(calls), {1: first, 2: second})

    def test_rips_stay_from_one_auto_to_the_next(self):
        self.assertEqual(seen(CROSSED + [auto(3), auto(4)], 5, 3, 1), seen(CROSSED + [auto(7)], 5, 3, 1))

    def test_each_rip_makes_a_net_dearer_for_a_soft_tree(self):
        for budget in (2, 4, 10, 1000):
            self.assertEqual(last(CROSSED + [auto(budget), soft(2)]), [4 + 8 * (1 + budget // 2), 1, 1])
        self.assertEqual(last(CROSSED + [auto(3), soft(1)]), [2 + 8 * 2, 1, 2])

    def test_the_next_soft_tree_goes_through_what_is_cheaper_then(self):
        through = {1: {1: 1, 2: 0, 3: 0}, 2: {1: 1, 2: 0, 3: 1}, 3: {1: 1, 2: 1, 3: 1}, 4: {1: 1, 2: 1, 3: 2},
                   5: {1: 2, 2: 1, 3: 2}}
        for budget in through:
            self.assertEqual(rips(CHOICE + [auto(budget)]), through[budget])
        self.assertEqual(last(CHOICE + [soft(3)]), [8 + 8, 1, 1])
        self.assertEqual(last(CHOICE + [auto(2), soft(3)]), [8 + 8, 1, 2])
        self.assertEqual(last(CHOICE + [auto(4), soft(3)]), [8 + 16, 1, 1])

    def test_rip_leaves_a_nets_rips(self):
        calls = CROSSED + [auto(4), rip(1)]
        self.assertEqual(rips(calls), {1: 2, 2: 2})
        self.assertEqual(last(calls + [route(1), soft(2)]), [4 + 8 * 3, 1, 1])

    def test_drop_sets_a_nets_rips_to_0(self):
        calls = CROSSED + [auto(4), rip(1), drop(1), pin(1, 1, 2, 0), pin(1, 1, 2, 2)]
        self.assertEqual(rips(calls), {1: 0, 2: 2})
        self.assertEqual(last(calls + [route(1), soft(2)]), [4 + 8, 1, 1])

    def test_a_refused_drop_leaves_them(self):
        self.assertEqual(rips(CROSSED + [auto(4), drop(1)]), {1: 2, 2: 2})

    def test_begin_sets_all_rips_to_0(self):
        self.assertEqual(rips(CROSSED + [auto(4)] + CROSSED), {1: 0, 2: 0})


class Refusals(unittest.TestCase):

    def test_budgets_beyond_the_range_are_refused(self):
        for good in (0, 1, 1000):
            self.assertEqual(last([auto(good)]), [0, 0])
        for bad in (-BIG, -1, 1001, BIG):
            self.assertEqual(last([auto(bad)]), [-12])

    def test_a_refusal_changes_nothing(self):
        for bad in (-1, 1001):
            self.assertEqual(seen(CROSSED + [auto(bad)], 5, 3, 1), seen(CROSSED, 5, 3, 1))
            self.assertEqual(last(CROSSED + [auto(bad), unlaid()]), [1, 2])


if __name__ == "__main__":
    unittest.main()
