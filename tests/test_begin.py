import unittest

from tests.helper import BIG, ask, begin, block, board_behind, costs, last, pin, prefer, rip, route, soft


class TheFirstBoard(unittest.TestCase):

    def test_it_has_8_columns_8_rows_and_2_layers(self):
        self.assertEqual(last([block(1, 7, 7)]), [0])
        self.assertEqual(last([block(2, 0, 0)]), [0])
        self.assertEqual(last([block(1, 8, 0)]), [-6])
        self.assertEqual(last([block(1, 0, 8)]), [-6])
        self.assertEqual(last([block(3, 0, 0)]), [-3])

    def test_via_costs_4(self):
        self.assertEqual(last([pin(1, 1, 0, 0), pin(1, 2, 0, 0), route(1)]), [4])

    def test_wrong_costs_2(self):
        self.assertEqual(last([prefer(1, 2), pin(1, 1, 0, 0), pin(1, 1, 1, 0), route(1)]), [2])

    def test_each_direction_is_0(self):
        for layer in (1, 2):
            self.assertEqual(last([pin(1, layer, 0, 0), pin(1, layer, 3, 0), route(1)]), [3])
            self.assertEqual(last([pin(1, layer, 0, 0), pin(1, layer, 0, 3), route(1)]), [3])

    def test_no_net_has_pins_or_is_laid(self):
        for net in (1, 32):
            self.assertEqual(ask([rip(net), route(net), soft(net)]), [[-8], [-9], [-9]])


class Begin(unittest.TestCase):

    def test_the_board_has_so_many_columns_rows_and_layers(self):
        for w, h, l in ((1, 1, 1), (24, 1, 2), (1, 24, 3), (24, 24, 4), (3, 5, 2)):
            made = [begin(w, h, l)]
            self.assertEqual(last(made), [0])
            self.assertEqual(last(made + [block(l, w - 1, h - 1)]), [0])
            self.assertEqual(last(made + [block(l, w, 0)]), [-6])
            self.assertEqual(last(made + [block(l, 0, h)]), [-6])
            self.assertEqual(last(made + [block(l + 1, 0, 0)]), [-3])

    def test_sizes_beyond_the_range_are_refused(self):
        for bad in (-BIG, -1, 0, 25, BIG):
            self.assertEqual(last([begin(bad, 5, 2)]), [-1])
            self.assertEqual(last([begin(5, bad, 2)]), [-1])
            self.assertEqual(last([begin(bad, bad, bad)]), [-1])
        for bad in (-BIG, -1, 0, 5, BIG):
            self.assertEqual(last([begin(5, 5, bad)]), [-1])

    def test_a_refusal_leaves_the_board(self):
        calls = [begin(3, 1, 1), costs(9, 9, 9), prefer(1, 2), block(1, 2, 0),
                 pin(1, 1, 0, 0), pin(1, 1, 1, 0), begin(4, 4, 5)]
        self.assertEqual(last(calls), [-1])
        self.assertEqual(last(calls + [route(1)]), [9])
        self.assertEqual(last(calls + [pin(1, 1, 2, 0)]), [-11])
        self.assertEqual(last(calls + [block(1, 3, 0)]), [-6])


class BeginInTheMidst(unittest.TestCase):

    used = [begin(3, 3, 2), costs(50, 60, 70), prefer(1, 2), prefer(2, 1), block(1, 1, 1),
            pin(1, 1, 0, 0), pin(1, 1, 0, 2), route(1), pin(2, 2, 2, 2), begin(3, 3, 2)]

    def test_costs_are_as_at_first(self):
        self.assertEqual(last(self.used + [pin(1, 1, 0, 0), pin(1, 2, 0, 0), route(1)]), [4])
        self.assertEqual(last(self.used + [prefer(1, 2), block(2, 0, 0, 2, 2), block(1, 0, 1, 2, 1),
                                           pin(1, 1, 0, 0), pin(1, 1, 2, 0), route(1)]), [4])
        across = [begin(3, 3, 1), costs(50, 60, 70), begin(3, 3, 1), pin(1, 1, 1, 0), pin(1, 1, 1, 2), route(1),
                  pin(2, 1, 0, 1), pin(2, 1, 2, 1), soft(2)]
        self.assertEqual(last(across), [10, 1, 1])

    def test_directions_are_0(self):
        for layer in (1, 2):
            self.assertEqual(last(self.used + [pin(3, layer, 0, 0), pin(3, layer, 2, 0), route(3)]), [2])
            self.assertEqual(last(self.used + [pin(3, layer, 0, 0), pin(3, layer, 0, 2), route(3)]), [2])

    def test_nothing_is_blocked_a_pins_or_taken(self):
        self.assertEqual(last(self.used + [pin(3, 0, 0, 0, 2, 2)]), [1])
        self.assertEqual(last(self.used + [block(0, 0, 0, 2, 2)]), [0])

    def test_nets_have_no_pins_and_are_not_laid(self):
        self.assertEqual(ask(self.used + [rip(1), route(1), pin(1, 1, 0, 0), route(2)])[-4:], [[-8], [-9], [1], [-9]])

    def test_rips_are_0(self):
        board = board_behind([begin(3, 3, 1)])
        board.rips[5] = 3
        board.renew(3, 3, 1)
        self.assertEqual(board.rips[5], 0)


if __name__ == "__main__":
    unittest.main()
