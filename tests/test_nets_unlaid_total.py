import unittest

from tests.helper import ask, auto, begin, costs, drop, last, nets, order, pin, prefer, rip, route, seen, total, unlaid

ALL = [pin(net, 1 + net % 2, net // 2 % 8, net // 16) for net in range(1, 33)]
EVERY_NET = range(1, 33)

CROSSED = [begin(5, 3, 1), pin(1, 1, 2, 0), pin(1, 1, 2, 2), route(1), pin(2, 1, 0, 1), pin(2, 1, 4, 1)]


class Nets(unittest.TestCase):

    def test_none(self):
        self.assertEqual(last([nets()]), [0])
        self.assertEqual(last([pin(3, 1, 0, 0), drop(3), nets()]), [0])

    def test_the_net_how_many_pins_whether_it_is_laid_and_its_rips(self):
        self.assertEqual(last([pin(32, 1, 0, 0), nets()]), [1, 32, 1, 0, 0])
        self.assertEqual(last([pin(7, 1, 0, 0)] * 16 + [route(7), nets()]), [1, 7, 16, 1, 0])
        self.assertEqual(last(CROSSED + [nets()]), [2, 1, 2, 1, 0, 2, 2, 0, 0])
        self.assertEqual(last(CROSSED + [auto(5), nets()]), [2, 1, 2, 0, 3, 2, 2, 1, 2])
        self.assertEqual(last(CROSSED + [auto(4), rip(1), nets()]), [2, 1, 2, 0, 2, 2, 2, 0, 2])

    def test_in_order(self):
        self.assertEqual(last([pin(9, 1, 0, 0), pin(4, 1, 1, 0), pin(12, 1, 2, 0), nets()]), [
            3, 4, 1, 0, 0, 9, 1, 0, 0, 12, 1, 0, 0])

    def test_a_net_that_is_laid_with_one_pin(self):
        self.assertEqual(last([pin(1, 1, 0, 0), route(1), nets()]), [1, 1, 1, 1, 0])

    def test_all_32(self):
        told = [[net, 1, 0, 0] for net in EVERY_NET]
        self.assertEqual(last(ALL + [nets()]), [32] + sum(told, []))
        laid = [[net, 1, 1, 0] for net in EVERY_NET]
        self.assertEqual(last(ALL + [auto(32), nets()]), [32] + sum(laid, []))


class Unlaid(unittest.TestCase):

    def test_none(self):
        self.assertEqual(last([unlaid()]), [0])
        self.assertEqual(last([pin(1, 1, 0, 0), route(1), unlaid()]), [0])
        self.assertEqual(last([pin(1, 1, 0, 0), drop(1), unlaid()]), [0])

    def test_nets_that_have_a_pin_and_are_not_laid(self):
        self.assertEqual(last([pin(32, 1, 0, 0), unlaid()]), [1, 32])
        self.assertEqual(last([pin(9, 1, 0, 0), pin(4, 1, 1, 0), pin(12, 1, 2, 0), route(9), unlaid()]), [2, 4, 12])
        self.assertEqual(last(CROSSED + [unlaid()]), [1, 2])
        self.assertEqual(last(CROSSED + [rip(1), unlaid()]), [2, 1, 2])

    def test_all_32(self):
        self.assertEqual(last(ALL + [unlaid()]), [32] + list(EVERY_NET))
        self.assertEqual(last(ALL + [order(*EVERY_NET), unlaid()]), [0])


class Total(unittest.TestCase):

    def test_none(self):
        self.assertEqual(last([total()]), [0, 0])
        self.assertEqual(last([pin(1, 1, 0, 0), pin(1, 1, 1, 0), total()]), [0, 0])

    def test_how_many_nets_are_laid_and_the_sum_of_their_costs(self):
        made = [begin(6, 6, 2), pin(1, 1, 0, 0), pin(1, 1, 5, 0), pin(2, 1, 0, 2), pin(2, 2, 0, 2), pin(32, 2, 0, 4),
                pin(32, 2, 2, 5)]
        self.assertEqual(last(made + [route(1), total()]), [1, 5])
        self.assertEqual(last(made + [order(1, 2), total()]), [2, 9])
        self.assertEqual(last(made + [order(1, 2, 32), total()]), [3, 12])
        self.assertEqual(last(made + [order(1, 2, 32), rip(1), total()]), [2, 7])

    def test_costs_and_directions_as_they_are_now(self):
        made = [begin(6, 6, 2), pin(1, 1, 0, 0), pin(1, 1, 5, 0), pin(2, 1, 0, 2), pin(2, 2, 0, 2), order(1, 2)]
        self.assertEqual(last(made + [costs(9, 5, 8), total()]), [2, 14])
        self.assertEqual(last(made + [costs(9, 5, 8), prefer(1, 2), total()]), [2, 34])
        self.assertEqual(last(made + [costs(9, 5, 8), prefer(1, 1), prefer(2, 2), total()]), [2, 14])

    def test_nothing_extra_counts(self):
        self.assertEqual(last(CROSSED + [auto(1), total()]), [1, 4])

    def test_a_net_that_is_laid_with_one_pin(self):
        self.assertEqual(last([pin(1, 0, 0, 0, 3, 3), route(1), total()]), [1, 0])

    def test_all_32(self):
        self.assertEqual(last(ALL + [order(*EVERY_NET), total()]), [32, 0])
        pairs = [begin(16, 8, 1)] + [pin(net, 1, (net - 1) % 4 * 4 + end, (net - 1) // 4) for net in EVERY_NET
                                     for end in (0, 3)]
        self.assertEqual(last(pairs + [order(*EVERY_NET), total()]), [32, 96])


class NothingChanges(unittest.TestCase):

    def test_asking_leaves_the_board(self):
        calls = CROSSED + [nets(), unlaid(), total()]
        self.assertEqual(seen(calls, 5, 3, 1), seen(CROSSED, 5, 3, 1))
        self.assertEqual(ask(calls + calls[-3:])[-3:], ask(calls)[-3:])


if __name__ == "__main__":
    unittest.main()
