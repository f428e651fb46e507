"""Point [5]: who is away."""

import unittest

from ringdown.errors import BadAway, BadTree
from ringdown.tree import is_away, need_away
from tests.samples import EMPTY, HUGE, OTHER_KINDS, TREE, subsets

# What doesn't tell who is AWAY in TREE, and the number by which it is refused.
BAD = (
    (None, None),
    ([], None),
    (["ann"], None),
    ("ann", None),
    ("", None),
    ({}, None),
    (True, None),
    (HUGE, None),
    (("",), 0),
    (("zoe",), 0),
    (("Ann",), 0),
    ((None,), 0),
    ((True,), 0),
    ((HUGE,), 0),
    ((["ann"],), 0),
    ((("ann",),), 0),
    (("", "ann"), 0),
    (("ann", "ann"), 1),
    (("bob", "ann"), 1),
    (("ann", "zoe", "bob"), 1),
    (("ann", "bob", ""), 2),
    (("ann", "cid", "bob", "zoe"), 2),
    (("ann", "bob", "cid", "dan", "eve", "fay", "fay"), 6),
    (("ann", 7), 1),
    (("ann",) * 1000, 1),
)


class Away(unittest.TestCase):
    def test_all_who_may_be(self):
        for away in subsets([row[0] for row in TREE[2]]):
            self.assertIs(is_away(TREE, away), True)
            self.assertIsNone(need_away(TREE, away))
        self.assertIs(is_away(EMPTY, ()), True)
        self.assertIsNone(need_away(EMPTY, ()))

    def test_rising_by_names_not_by_people(self):
        tree = (1, 0, (("b", "", 1), ("a", "b", 1)))
        self.assertIs(is_away(tree, ("a", "b")), True)
        self.assertIs(is_away(tree, ("b", "a")), False)

    def test_what_is_none(self):
        for away, number in BAD:
            self.assertIs(is_away(TREE, away), False)
            with self.assertRaises(BadAway) as caught:
                need_away(TREE, away)
            self.assertEqual(caught.exception.number, number)
            self.assertIs(caught.exception.number is None, number is None)

    def test_of_anything(self):
        for thing in OTHER_KINDS:
            if thing != ():
                self.assertIs(is_away(TREE, thing), False)
                with self.assertRaises(BadAway):
                    need_away(TREE, thing)
                with self.assertRaises(BadAway) as caught:
                    need_away(TREE, ("ann", thing))
                self.assertEqual(caught.exception.number, 1)

    def test_bad_tree_ahead(self):
        for away in ((), None, ("zoe",)):
            for ask in (is_away, need_away):
                with self.assertRaises(BadTree) as caught:
                    ask((0, 0, ()), away)
                self.assertEqual((caught.exception.part, caught.exception.number), ("wait", None))
        for thing in OTHER_KINDS:
            for ask in (is_away, need_away):
                with self.assertRaises(BadTree):
                    ask(thing, ())


if __name__ == "__main__":
    unittest.main()
