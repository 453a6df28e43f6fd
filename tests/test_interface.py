import contextlib
import io
import sys
import unittest

from netways.board import UnknownCall, answers
from tests.helper import auto, begin, block, cell, cost, costs, drop, free, improve, joined, nets, order, pin, prefer
from tests.helper import rip, route, soft, split, total, tree, unlaid, way

CROSSED = [begin(3, 3, 1), pin(1, 1, 1, 0), pin(1, 1, 1, 2), route(1), pin(2, 1, 0, 1), pin(2, 1, 2, 1)]

# Each call with what it answers: net 1 is laid down the middle column, net 2 can only go through it.
TOLD = (
    (begin(5, 3, 1), [0]),
    (costs(3, 2, 5), [0]),
    (prefer(1, 1), [0]),
    (block(1, 3, 0, 4, 0), [0]),
    (free(1, 4, 0), [0]),
    (pin(1, 1, 2, 0), [1]),
    (pin(1, 1, 2, 2), [2]),
    (pin(2, 1, 0, 1), [1]),
    (pin(2, 1, 4, 1), [2]),
    (pin(3, 1, 0, 0), [1]),
    (route(1), [4]),
    (soft(2), [9, 1, 1]),
    (cell(1, 3, 0), [1, 0]),
    (cell(1, 2, 1), [3, 1]),
    (way(1, 1), [3, 1, 2, 2, 1, 2, 1, 1, 2, 0]),
    (tree(1), [4, 1, 3]),
    (cost(2, (1, 0, 1), (1, 1, 2)), [3]),
    (cost(2, (1, 0, 1), (1, 4, 1)), [-14]),
    (nets(), [3, 1, 2, 1, 0, 2, 2, 0, 0, 3, 1, 0, 0]),
    (unlaid(), [2, 2, 3]),
    (total(), [1, 4]),
    (order(3, 2), [1, 2]),
    (auto(1), [1, 1, 1]),
    (total(), [2, 4]),
    (improve(1), [0, 1, 1]),
    (improve(1000), [1, 1, 2]),
    (rip(3), [0]),
    (drop(3), [1]),
    (drop(33), [-5]),
    (nets(), [2, 1, 2, 1, 500, 2, 2, 0, 499]),
)
EVERY_CALL = [call for call, said in TOLD]


class Watched(list):
    """A list that can be read but not changed."""

    def refuse(self, *given):
        raise AssertionError("what is handed in was changed")

    __setitem__ = __delitem__ = __iadd__ = __imul__ = refuse
    append = clear = extend = insert = pop = remove = reverse = sort = refuse


class Answers(unittest.TestCase):

    def test_each_answer_stands_behind_how_many_numbers_it_has(self):
        self.assertEqual(answers(begin(3, 3, 1)), [1, 0])
        self.assertEqual(answers(begin(0, 3, 1)), [1, -1])
        self.assertEqual(answers(joined([pin(1, 1, 0, 0), soft(1)])), [1, 1, 2, 0, 0])
        self.assertEqual(answers(joined([unlaid(), order(), nets(), total(), auto(5)])),
                         [1, 0, 1, 0, 1, 0, 2, 0, 0, 2, 0, 0])
        self.assertEqual(answers(joined([order(0), auto(-1), improve(1001), cell(0, 0, 0), way(1, 1), tree(1)])),
                         [1, -5, 1, -12, 1, -12, 1, -3, 1, -8, 1, -8])
        crossed = CROSSED + [soft(2)]
        self.assertEqual(answers(joined(crossed)), [1, 0, 1, 1, 1, 2, 1, 2, 1, 1, 1, 2, 3, 10, 1, 1])

    def test_every_call_one_behind_another(self):
        self.assertEqual(sorted(set(call[0] for call in EVERY_CALL)), list(range(20)))
        self.assertEqual(split(answers(joined(EVERY_CALL))), [said for call, said in TOLD])
        self.assertEqual(answers(joined(EVERY_CALL)), joined([len(said)] + said for call, said in TOLD))

    def test_they_are_whole_numbers_in_a_list(self):
        said = answers(joined(EVERY_CALL))
        self.assertIs(type(said), list)
        self.assertEqual([number for number in said if type(number) is not int], [])

    def test_140_calls(self):
        calls = [begin(24, 24, 4)] + [pin(1 + k // 4, 1 + k % 4, k % 24, k // 24 * 8) for k in range(107)]
        calls += [route(1 + k) for k in range(32)]
        said = answers(joined(calls))
        self.assertEqual(len(said), 2 * 140)
        self.assertEqual(said[0::2], [1] * 140)


    def test_140_calls_of_the_longest_kind(self):
        said = answers(joined([order(*range(1, 33), *[1] * 68)] * 140))
        self.assertEqual(said, [1, 0] * 140)


class WhatIsHandedIn(unittest.TestCase):

    def test_it_is_as_it_was(self):
        calls = joined(EVERY_CALL)
        before = list(calls)
        answers(calls)
        self.assertEqual(calls, before)

    def test_it_is_not_changed_for_a_while_either(self):
        self.assertEqual(answers(Watched(joined(EVERY_CALL))), answers(joined(EVERY_CALL)))


class OneTimeAndTheNext(unittest.TestCase):

    def test_nothing_is_kept(self):
        first = answers(joined(EVERY_CALL))
        answers(joined([costs(9, 9, 9), prefer(1, 2), prefer(2, 2), block(0, 0, 0, 7, 7)]))
        self.assertEqual(answers(joined(EVERY_CALL)), first)
        self.assertEqual(answers(joined([pin(1, 1, 0, 0), pin(1, 2, 3, 0), route(1)])), [1, 1, 1, 2, 1, 7])

    def test_what_was_answered_may_be_changed(self):
        first = answers(joined(EVERY_CALL))
        kept = list(first)
        first.clear()
        self.assertEqual(answers(joined(EVERY_CALL)), kept)

    def test_nothing_is_printed_or_imported(self):
        said = io.StringIO()
        modules = sorted(sys.modules)
        with contextlib.redirect_stdout(said), contextlib.redirect_stderr(said):
            answers(joined(EVERY_CALL))
        self.assertEqual(said.getvalue(), "")
        self.assertEqual(sorted(sys.modules), modules)


class Depth(unittest.TestCase):

    def answers_in_few_calls(self, calls):
        """The answers, with far fewer calls within one another than Python allows."""
        limit = sys.getrecursionlimit()
        sys.setrecursionlimit(120)
        try:
            return answers(calls)
        finally:
            sys.setrecursionlimit(limit)

    def test_long_ways_are_gone_through_by_loops(self):
        walls = [block(0, k // 2 % 2, k, 22 + k // 2 % 2, k) for k in range(1, 24, 2)]
        asked = [tree(1), improve(1), rip(1), soft(1), auto(1), cost(1, (1, 0, 0), (1, 23, 22)), total()]
        calls = joined([begin(24, 24, 1)] + walls + [pin(1, 1, 0, 0), pin(1, 1, 23, 22), route(1)] + asked)
        said = split(self.answers_in_few_calls(calls))
        self.assertEqual(said[-8:], [[275], [275, 1, 276], [1, 0], [0], [275, 0], [1, 0], [275], [1, 275]])

    def test_a_long_row_is_gone_through_by_loops(self):
        calls = joined(CROSSED + [auto(1000), improve(1000), order(*[1, 2] * 50)])
        self.assertEqual(split(self.answers_in_few_calls(calls))[-3:], [[1000, 1, 2], [1, 1, 2], [1, 2]])


class NoSuchCall(unittest.TestCase):

    def test_a_number_that_is_no_calls_is_an_error(self):
        for number in (-1000000000, -1, 20, 1000000000):
            with self.assertRaises(UnknownCall):
                answers([number])


if __name__ == "__main__":
    unittest.main()
