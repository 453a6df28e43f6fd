import contextlib
import io
import sys
import unittest

from netways.board import UnknownCall, answers
from tests.helper import begin, block, costs, drop, free, joined, pin, prefer, rip, route, soft

EVERY_CALL = [
    begin(4, 3, 2), costs(3, 2, 5), prefer(1, 2), block(1, 3, 0, 3, 2), free(1, 3, 1),
    pin(1, 1, 0, 0), pin(1, 1, 0, 2), route(1), pin(2, 2, 0, 0), pin(2, 2, 1, 2), soft(2), rip(1), drop(1), drop(33),
]


class Watched(list):
    """A list that can be read but not changed."""

    def refuse(self, *given):
        raise AssertionError("what is handed in was changed")

    __setitem__ = __delitem__ = __iadd__ = __imul__ = refuse
    append = clear = extend = insert = pop = remove = reverse = sort = refuse


class Answers(unittest.TestCase):

    def test_each_answer_stands_behind_how_many_numbers_it_has(self):
        self.assertEqual(answers(begin(3, 3, 1)), [1, 0])
        self.assertEqual(answers(begin(0, 3, 1)), [1, -1])
        self.assertEqual(answers(joined([pin(1, 1, 0, 0), soft(1)])), [1, 1, 2, 0, 0])
        crossed = [begin(3, 3, 1), pin(1, 1, 1, 0), pin(1, 1, 1, 2), route(1), pin(2, 1, 0, 1), pin(2, 1, 2, 1), soft(2)]
        self.assertEqual(answers(joined(crossed)), [1, 0, 1, 1, 1, 2, 1, 2, 1, 1, 1, 2, 3, 10, 1, 1])

    def test_every_call_one_behind_another(self):
        self.assertEqual(answers(joined(EVERY_CALL)), [
            1, 0, 1, 0, 1, 0, 1, 0, 1, 0, 1, 1, 1, 2, 1, 2, 1, 1, 1, 2, 2, 3, 0, 1, 0, 1, 2, 1, -5])

    def test_they_are_whole_numbers_in_a_list(self):
        said = answers(joined(EVERY_CALL))
        self.assertIs(type(said), list)
        self.assertEqual([number for number in said if type(number) is not int], [])

    def test_140_calls(self):
        calls = [begin(24, 24, 4)] + [pin(1 + k // 4, 1 + k % 4, k % 24, k // 24 * 8) for k in range(107)]
        calls += [route(1 + k) for k in range(32)]
        said = answers(joined(calls))
        self.assertEqual(len(said), 2 * 140)
        self.assertEqual(said[0::2], [1] * 140)


class WhatIsHandedIn(unittest.TestCase):

    def test_it_is_as_it_was(self):
        calls = joined(EVERY_CALL)
        before = list(calls)
        answers(calls)
        self.assertEqual(calls, before)

    def test_it_is_not_changed_for_a_while_either(self):
        self.assertEqual(answers(Watched(joined(EVERY_CALL))), answers(joined(EVERY_CALL)))


class OneTimeAndTheNext(unittest.TestCase):

    def test_nothing_is_kept(self):
        first = answers(joined(EVERY_CALL))
        answers(joined([costs(9, 9, 9), prefer(1, 2), prefer(2, 2), block(0, 0, 0, 7, 7)]))
        self.assertEqual(answers(joined(EVERY_CALL)), first)
        self.assertEqual(answers(joined([pin(1, 1, 0, 0), pin(1, 2, 3, 0), route(1)])), [1, 1, 1, 2, 1, 7])

    def test_what_was_answered_may_be_changed(self):
        first = answers(joined(EVERY_CALL))
        kept = list(first)
        first.clear()
        self.assertEqual(answers(joined(EVERY_CALL)), kept)

    def test_nothing_is_printed_or_imported(self):
        said = io.StringIO()
        modules = sorted(sys.modules)
        with contextlib.redirect_stdout(said), contextlib.redirect_stderr(said):
            answers(joined(EVERY_CALL))
        self.assertEqual(said.getvalue(), "")
        self.assertEqual(sorted(sys.modules), modules)


class Depth(unittest.TestCase):

    def test_long_ways_are_gone_through_by_loops(self):
        walls = [block(0, k // 2 % 2, k, 22 + k // 2 % 2, k) for k in range(1, 24, 2)]
        calls = joined([begin(24, 24, 1)] + walls + [pin(1, 1, 0, 0), pin(1, 1, 23, 22), route(1), rip(1), soft(1)])
        limit = sys.getrecursionlimit()
        sys.setrecursionlimit(120)
        try:
            said = answers(calls)
        finally:
            sys.setrecursionlimit(limit)
        self.assertEqual(said[-7:], [1, 275, 1, 0, 2, 275, 0])


class NoSuchCall(unittest.TestCase):

    def test_a_number_that_is_no_calls_is_an_error(self):
        for number in (-1, 20, 1000000000):
            with self.assertRaises(UnknownCall):
                answers([number])


if __name__ == "__main__":
    unittest.main()
