import unittest

from tests.helper import BIG, ask, begin, block, free, last, nets, order, pin, rip, rips, route, seen, tree, unlaid
from tests.helper import ways

# One layer: net 1 and net 2 cross in the midst, so only one of them can be laid.
CROSS = [begin(3, 3, 1), pin(1, 1, 1, 0), pin(1, 1, 1, 2), pin(2, 1, 0, 1), pin(2, 1, 2, 1)]

# Net 1 straight across leaves nothing to net 2; net 2 straight down leaves net 1 the last row.
DETOUR = [begin(5, 4, 1), pin(1, 1, 0, 1), pin(1, 1, 4, 1), pin(2, 1, 2, 0), pin(2, 1, 2, 2)]


class Answers(unittest.TestCase):

    def test_the_list_of_the_unlaid_nets_with_numbers_rising(self):
        some = [begin(8, 1, 1), pin(9, 1, 0, 0), pin(4, 1, 2, 0), pin(32, 1, 4, 0), pin(1, 1, 6, 0)]
        self.assertEqual(last(some + [order()]), [4, 1, 4, 9, 32])
        self.assertEqual(last(some + [order(9)]), [3, 1, 4, 32])
        self.assertEqual(last(some + [order(32, 4)]), [2, 1, 9])
        self.assertEqual(last(some + [order(32, 4, 1, 9)]), [0])

    def test_nets_that_were_laid_before_are_not_told(self):
        self.assertEqual(last(CROSS + [route(1), order()]), [1, 2])

    def test_no_nets_at_all(self):
        self.assertEqual(last([order()]), [0])
        self.assertEqual(last([order(1, 2, 32)]), [0])

    def test_an_empty_list_changes_nothing(self):
        self.assertEqual(seen(CROSS + [order()], 3, 3, 1), seen(CROSS, 3, 3, 1))


class Laying(unittest.TestCase):

    def test_one_after_another_in_the_order_told(self):
        self.assertEqual(ask(CROSS + [order(1, 2), tree(1)])[-2:], [[1, 2], [2, 1, 3]])
        self.assertEqual(ask(CROSS + [order(2, 1), tree(2)])[-2:], [[1, 1], [2, 1, 3]])
        self.assertEqual(last(DETOUR + [order(1, 2)]), [1, 2])
        self.assertEqual(last(DETOUR + [order(2, 1)]), [0])
        self.assertEqual(ask(DETOUR + [order(2, 1), tree(1), tree(2)])[-2:], [[8, 1, 9], [2, 1, 3]])

    def test_by_the_same_tree_as_route(self):
        made = [begin(6, 5, 2), block(1, 2, 0, 2, 3), pin(3, 1, 0, 0), pin(3, 1, 5, 1), pin(3, 2, 3, 4)]
        self.assertEqual(seen(made + [order(3)], 6, 5, 2), seen(made + [route(3)], 6, 5, 2))

    def test_a_net_told_twice_is_laid_once(self):
        calls = CROSS + [order(2, 2, 2)]
        self.assertEqual(last(calls), [1, 1])
        self.assertEqual(seen(calls, 3, 3, 1), seen(CROSS + [route(2)], 3, 3, 1))

    def test_a_net_that_is_laid_stays_as_it_is(self):
        made = [begin(3, 2, 1), pin(1, 1, 0, 0), pin(1, 1, 2, 0), block(1, 1, 0), route(1), free(1, 1, 0)]
        calls = made + [order(1)]
        self.assertEqual(last(calls), [0])
        self.assertEqual(ways(calls, 1), ways(made, 1))
        self.assertEqual(last(calls + [rip(1), order(1), tree(1)]), [2, 1, 3])

    def test_a_net_without_pins_is_passed_over(self):
        self.assertEqual(ask(CROSS + [order(7, 1, 8), tree(7), tree(1)])[-3:], [[1, 2], [-8], [2, 1, 3]])

    def test_a_net_without_a_tree_is_passed_over(self):
        calls = DETOUR + [pin(3, 1, 0, 0), order(1, 2, 3)]
        self.assertEqual(last(calls), [1, 2])
        self.assertEqual(last(calls + [nets()]), [3, 1, 2, 1, 0, 2, 2, 0, 0, 3, 1, 1, 0])

    def test_a_net_that_had_no_tree_is_laid_when_it_is_told_again_and_has_one(self):
        calls = CROSS + [order(1, 2, 2)]
        self.assertEqual(last(calls), [1, 2])
        self.assertEqual(last(calls + [order(2)]), [1, 2])
        self.assertEqual(last(calls + [rip(1), order(2, 1)]), [1, 1])

    def test_nothing_is_ripped(self):
        self.assertEqual(rips(CROSS + [order(1, 2, 1, 2)]), {1: 0, 2: 0})
        self.assertEqual(last(CROSS + [route(2), order(1, 1), unlaid()]), [1, 1])

    def test_one_pin(self):
        self.assertEqual(ask([pin(5, 0, 1, 1, 3, 3), order(5), tree(5)])[1:], [[0], [0, 0, 0]])

    def test_100_numbers(self):
        self.assertEqual(last(DETOUR + [order(*([3] * 98 + [2, 1]))]), [0])
        self.assertEqual(last(DETOUR + [order(*([3] * 97 + [1, 2, 1]))]), [1, 2])


class Refusals(unittest.TestCase):

    def test_nets_beyond_the_range_are_refused(self):
        for good in (1, 32):
            self.assertEqual(last([pin(good, 1, 0, 0), order(good)]), [0])
        for bad in (-BIG, -1, 0, 33, BIG):
            self.assertEqual(last([order(bad)]), [-5])

    def test_one_net_out_of_range_among_others_changes_nothing(self):
        for bad in (-BIG, -1, 0, 33, BIG):
            for row in ((bad, 1), (2, bad, 1), (1, 2, bad), (bad, bad), (1,) * 99 + (bad,)):
                calls = CROSS + [order(*row)]
                self.assertEqual(last(calls), [-5])
                self.assertEqual(last(calls + [nets()]), [2, 1, 2, 0, 0, 2, 2, 0, 0])
        self.assertEqual(seen(CROSS + [order(1, 33)], 3, 3, 1), seen(CROSS, 3, 3, 1))

    def test_the_call_behind_a_refused_one_is_read_where_it_begins(self):
        self.assertEqual(ask(CROSS + [order(1, 0, 17, 18), order(1)])[-2:], [[-5], [1, 2]])


if __name__ == "__main__":
    unittest.main()
