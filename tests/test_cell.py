import unittest

from tests.helper import BIG, ask, begin, block, cell, drop, free, last, pin, rip, route, seen

SMALL = [begin(4, 3, 2)]
LAID = SMALL + [pin(1, 1, 0, 0), pin(1, 1, 3, 0), route(1)]


class Answers(unittest.TestCase):

    def test_a_cell_of_a_new_board(self):
        for layer in (1, 2):
            for x in range(4):
                for y in range(3):
                    self.assertEqual(last(SMALL + [cell(layer, x, y)]), [0, 0])

    def test_a_blocked_cell(self):
        calls = SMALL + [block(2, 1, 0, 2, 1)]
        self.assertEqual(ask(calls + [cell(2, 1, 0), cell(2, 2, 1), cell(1, 1, 0), cell(2, 3, 1)])[2:],
                         [[1, 0], [1, 0], [0, 0], [0, 0]])
        self.assertEqual(last(calls + [free(0, 1, 0), cell(2, 1, 0)]), [0, 0])

    def test_a_pins_cell_whether_the_net_is_laid_or_not(self):
        calls = SMALL + [pin(32, 2, 1, 1, 2, 2), pin(7, 0, 0, 0)]
        asked = [cell(2, 1, 1), cell(2, 2, 2), cell(1, 0, 0), cell(2, 0, 0), cell(1, 1, 1)]
        self.assertEqual(ask(calls + asked)[3:], [[2, 32], [2, 32], [2, 7], [2, 7], [0, 0]])
        self.assertEqual(ask(calls + [route(32), route(7)] + asked)[5:], [[2, 32], [2, 32], [2, 7], [2, 7], [0, 0]])
        self.assertEqual(last(calls + [drop(32), cell(2, 1, 1)]), [0, 0])

    def test_a_taken_cell(self):
        asked = [cell(1, 1, 0), cell(1, 2, 0), cell(1, 1, 1), cell(2, 1, 0)]
        self.assertEqual(ask(LAID + asked)[4:], [[3, 1], [3, 1], [0, 0], [0, 0]])
        self.assertEqual(last(LAID + [rip(1), cell(1, 1, 0)]), [0, 0])

    def test_a_pins_cell_that_a_way_takes_is_a_pins(self):
        self.assertEqual(ask(LAID + [cell(1, 0, 0), cell(1, 3, 0)])[4:], [[2, 1], [2, 1]])
        passed = [begin(3, 1, 1), pin(2, 1, 0, 0), pin(2, 1, 2, 0), pin(2, 1, 1, 0), route(2), cell(1, 1, 0)]
        self.assertEqual(last(passed), [2, 2])

    def test_a_cell_that_only_a_step_to_another_layer_takes(self):
        for l in (3, 4):
            calls = [begin(2, 1, l), pin(5, 1, 0, 0), pin(5, 2, 0, 0), route(5)]
            asked = [cell(layer, 0, 0) for layer in range(1, l + 1)]
            self.assertEqual(ask(calls + asked)[4:], [[2, 5], [2, 5]] + [[3, 5]] * (l - 2))
            self.assertEqual(ask(calls + [rip(5)] + asked)[5:], [[2, 5], [2, 5]] + [[0, 0]] * (l - 2))
            self.assertEqual(last(calls + [cell(l, 1, 0)]), [0, 0])

    def test_x_is_told_before_y(self):
        calls = SMALL + [block(1, 2, 1)]
        self.assertEqual(ask(calls + [cell(1, 2, 1), cell(1, 1, 2)])[2:], [[1, 0], [0, 0]])

    def test_nothing_changes(self):
        self.assertEqual(seen(LAID + [cell(1, 1, 0), cell(2, 3, 2)], 4, 3, 2), seen(LAID, 4, 3, 2))


class Refusals(unittest.TestCase):

    def test_layers_beyond_the_range_are_refused(self):
        for l in (1, 2, 3, 4):
            for good in (1, l):
                self.assertEqual(last([begin(2, 2, l), cell(good, 1, 1)]), [0, 0])
            for bad in (-BIG, -1, 0, l + 1, BIG):
                self.assertEqual(last([begin(2, 2, l), cell(bad, 1, 1)]), [-3])

    def test_x_and_y_beyond_the_range_are_refused(self):
        self.assertEqual(ask(SMALL + [cell(1, 0, 0), cell(2, 3, 2)])[1:], [[0, 0], [0, 0]])
        for bad in (-BIG, -1, 4, BIG):
            self.assertEqual(last(SMALL + [cell(1, bad, 0)]), [-6])
        for bad in (-BIG, -1, 3, BIG):
            self.assertEqual(last(SMALL + [cell(1, 0, bad)]), [-6])
        self.assertEqual(last(SMALL + [cell(1, -1, 3)]), [-6])

    def test_of_both_refusals_the_layers_is_answered(self):
        self.assertEqual(ask(SMALL + [cell(0, 4, 0), cell(3, 0, -1)])[1:], [[-3], [-3]])

    def test_a_refusal_changes_nothing(self):
        calls = LAID + [cell(0, 1, 0), cell(1, 4, 0), cell(1, 0, -1)]
        self.assertEqual(seen(calls, 4, 3, 2), seen(LAID, 4, 3, 2))


if __name__ == "__main__":
    unittest.main()
