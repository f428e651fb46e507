"""Point [16]: calls that are handed in, looked through."""

import unittest

from ringdown.errors import BadAway, BadCall, BadTree
from ringdown.ringcheck import check_calls
from ringdown.rings import last_of, ring_calls
from tests.samples import EMPTY, HUGE, NAMES, OTHER_KINDS, TREE, Thing, mixed_trees, small_trees, subsets

CALLS = ring_calls(TREE)
AWAY = ("ann", "cid")


class Checked(unittest.TestCase):
    def refused(self, number, tree, calls, away=None):
        with self.assertRaises(BadCall) as caught:
            check_calls(tree, calls, away)
        self.assertEqual(caught.exception.number, number)
        self.assertIs(caught.exception.number is None, number is None)

    def test_the_rings_own(self):
        self.assertEqual(check_calls(TREE, CALLS), 14)
        self.assertEqual(check_calls(TREE, tuple(CALLS)), 14)
        self.assertEqual(check_calls(tree=TREE, calls=ring_calls(TREE, AWAY), away=AWAY), 18)
        self.assertEqual(check_calls(TREE, ring_calls(TREE, ("fay",)), ("fay",)), 9)
        self.assertEqual(check_calls(EMPTY, []), 0)
        self.assertEqual(check_calls(EMPTY, (), ()), 0)

    def test_the_rings_own_of_many_trees(self):
        for tree in small_trees(3):
            for away in subsets(NAMES[:3]):
                self.assertEqual(check_calls(tree, ring_calls(tree, away), away), last_of(tree, away))
        for tree in mixed_trees(16, 20, 4):
            self.assertEqual(check_calls(tree, ring_calls(tree, NAMES[:5]), NAMES[:5]), last_of(tree, NAMES[:5]))

    def test_one_otherwise(self):
        for number, call in enumerate(CALLS):
            start, end, caller, callee, answered = call
            for other in (
                (start + 1, end, caller, callee, answered),
                (start, end - 1, caller, callee, answered),
                (start, end, "zoe", callee, answered),
                (start, end, caller, "zoe", answered),
                (start, end, caller, callee, not answered),
                (start, end, caller, callee),
                (start, end, caller, callee, answered, answered),
                list(call),
                (HUGE, end, caller, callee, answered),
                (start, end, None, callee, answered),
                (start, end, caller, [callee], answered),
                (start, end, caller, callee.encode(), answered),
                None, True, 0, "call", (), [], {}, Thing(),
            ):
                self.refused(number, TREE, CALLS[:number] + [other] + CALLS[number + 1:])
                self.refused(number, TREE, tuple(CALLS[:number] + [other]))

    def test_truths_for_numbers_and_numbers_for_truths(self):
        tree = (1, 0, (("a", "", 1), ("b", "", 1)))
        right = [(0, 1, "", "a", True), (1, 2, "", "b", True)]
        self.assertEqual(check_calls(tree, right), 2)
        self.refused(0, tree, [(False, 1, "", "a", True), right[1]])
        self.refused(0, tree, [(0, True, "", "a", True), right[1]])
        self.refused(0, tree, [(0, 1, "", "a", 1), right[1]])
        self.refused(1, tree, [right[0], (True, 2, "", "b", True)])
        missed = [(0, 1, "", "a", True), (1, 2, "", "b", False)]
        self.assertEqual(check_calls(tree, missed, ("b",)), 1)
        self.refused(1, tree, [missed[0], (1, 2, "", "b", 0)], ("b",))
        self.refused(1, tree, [missed[0], (1, 2, "", "b", None)], ("b",))

    def test_one_lacking(self):
        for many in range(len(CALLS)):
            self.refused(many, TREE, CALLS[:many])
            self.refused(many, TREE, tuple(CALLS[:many]))
        for number in range(len(CALLS) - 1):
            self.refused(number, TREE, CALLS[:number] + CALLS[number + 1:])

    def test_one_more(self):
        self.refused(6, TREE, CALLS + [CALLS[5]])
        self.refused(6, TREE, CALLS + [None, None])
        self.refused(1, TREE, CALLS[:1] + CALLS)
        self.refused(0, EMPTY, [CALLS[0]])

    def test_two_that_changed_places(self):
        self.refused(1, TREE, [CALLS[0], CALLS[2], CALLS[1]] + CALLS[3:])

    def test_the_first_one_of_several(self):
        self.refused(2, TREE, CALLS[:2] + [None, None])
        self.refused(0, TREE, ring_calls(TREE, AWAY))

    def test_neither_list_nor_tuple(self):
        for thing in OTHER_KINDS + (iter(CALLS), dict(enumerate(CALLS)), "", set(CALLS), range(6)):
            if not isinstance(thing, (list, tuple)):
                self.refused(None, TREE, thing)

    def test_of_anything_in_a_list(self):
        for thing in OTHER_KINDS:
            self.refused(0, TREE, [thing])
            self.refused(3, TREE, tuple(CALLS[:3]) + (thing,))

    def test_order_of_refusals(self):
        for calls in (None, [], CALLS):
            with self.assertRaises(BadTree):
                check_calls((0, 0, ()), calls, ("zoe",))
            with self.assertRaises(BadAway) as caught:
                check_calls(TREE, calls, ("ann", "zoe"))
            self.assertEqual(caught.exception.number, 1)
        for thing in OTHER_KINDS:
            with self.assertRaises(BadTree):
                check_calls(thing, CALLS)
            if thing is not None and thing != ():
                with self.assertRaises(BadAway):
                    check_calls(TREE, CALLS, thing)


if __name__ == "__main__":
    unittest.main()
