"""Points [2], [3] and [4]: persons and trees, what is none, and who stands where."""

import unittest

from ringdown.errors import BadTree, NoName
from ringdown.tree import (
    below, caller_of, in_walk, is_tree, level_of, list_of, names_of, need_tree, same_tree, talk_of,
)
from tests.samples import EMPTY, HUGE, NAMES, OTHER_KINDS, PEOPLE, TREE, chain, flat, mixed_trees, small_trees

NO_WHOLE = (True, False, None, "5", 5.0, [5], (5,))
NO_NAME_THERE = ("zoe", "an", "annn", "Ann", "ANN", "ann ", None, True, 0, 7, HUGE, ["ann"], ("ann",), b"ann", {}, {1})

GOOD = (
    EMPTY,
    TREE,
    (60, 4, (("a", "", 60),)),
    (1, 1, (("abcdefgh", "", 1), ("b", "abcdefgh", 60))),
    chain(16),
    flat(16),
)

# What is no TREE, and the part and number by which it is refused.
BAD = (
    ([2, 0, ()], None, None),
    ((), None, None),
    ((2, 0), None, None),
    ((2, 0, (), ()), None, None),
    ("abc", None, None),
    ((0, 0, ()), "wait", None),
    ((61, 0, ()), "wait", None),
    ((True, 0, ()), "wait", None),
    ((HUGE, 0, ()), "wait", None),
    ((1, -1, ()), "deep", None),
    ((1, 5, ()), "deep", None),
    ((1, False, ()), "deep", None),
    ((1, True, ()), "deep", None),
    ((1, 0, []), "people", None),
    ((1, 0, [("a", "", 5)]), "people", None),
    ((1, 0, None), "people", None),
    ((1, 0, flat(16)[2] + (("q", "", 1),)), "people", None),
    ((1, 0, (None,) * 17), "people", None),
    ((1, 0, (None,)), "people", 0),
    ((1, 0, ("abc",)), "people", 0),
    ((1, 0, (["a", "", 5],)), "people", 0),
    ((1, 0, (("a", ""),)), "people", 0),
    ((1, 0, (("a", "", 5, 5),)), "people", 0),
    ((1, 0, (("", "", 5),)), "people", 0),
    ((1, 0, (("abcdefghi", "", 5),)), "people", 0),
    ((1, 0, (("A", "", 5),)), "people", 0),
    ((1, 0, (("a", "", 0),)), "people", 0),
    ((1, 0, (("a", "", 61),)), "people", 0),
    ((1, 0, (("a", "", True),)), "people", 0),
    ((1, 0, (("a", "a", 5),)), "people", 0),
    ((1, 0, (("a", "b", 5),)), "people", 0),
    ((1, 0, (("a", None, 5),)), "people", 0),
    ((1, 0, (("a", (), 5),)), "people", 0),
    ((1, 0, (("a", "", 5), ("a", "", 5))), "people", 1),
    ((1, 0, (("a", "", 5), ("b", "", 5), ("a", "b", 5))), "people", 2),
    ((1, 0, (("a", "", 5), ("b", "c", 5), ("c", "", 5))), "people", 1),
    ((1, 0, (("a", "", 5), ("b", "b", 5))), "people", 1),
    ((1, 0, (("a", "", 5), ("b", ["a"], 5))), "people", 1),
    ((1, 0, (("a", "", 5), ("b", "a", "5"))), "people", 1),
    ((1, 0, flat(15)[2] + (("aa", "", 1),)), "people", 15),
    # Of several faults the one told first is given.
    ((0, 9, None), "wait", None),
    ((1, 9, None), "deep", None),
    ((1, 4, ((), ("a", "a", 0))), "people", 0),
)

ASKED = (
    names_of, list_of, below, level_of, in_walk, need_tree,
    lambda tree: caller_of(tree, "ann"),
    lambda tree: talk_of(tree, "ann"),
    lambda tree: same_tree(tree, TREE),
    lambda tree: same_tree(TREE, tree),
    lambda tree: list_of(tree, "zoe"),
    lambda tree: below(tree, None),
    lambda tree: level_of(tree, 7),
    lambda tree: caller_of(tree, ""),
    lambda tree: talk_of(tree, ""),
)


class Trees(unittest.TestCase):
    def refused(self, call, part, number):
        with self.assertRaises(BadTree) as caught:
            call()
        self.assertEqual((caught.exception.part, caught.exception.number), (part, number))

    def test_trees(self):
        for tree in GOOD:
            self.assertIs(is_tree(tree), True)
            self.assertIsNone(need_tree(tree))

    def test_what_is_none(self):
        for at, (tree, part, number) in enumerate(BAD):
            with self.subTest(at):
                self.assertIs(is_tree(tree), False)
                self.refused(lambda: need_tree(tree), part, number)

    def test_numbers_at_their_ends(self):
        for wait in range(-1, 63):
            self.assertIs(is_tree((wait, 0, ())), 1 <= wait <= 60)
        for deep in range(-1, 7):
            self.assertIs(is_tree((1, deep, ())), 0 <= deep <= 4)
        for talk in range(-1, 63):
            self.assertIs(is_tree((1, 0, (("a", "", talk),))), 1 <= talk <= 60)
        for many in range(17):
            self.assertIs(is_tree(flat(many)), True)

    def test_what_is_no_whole_number(self):
        for thing in NO_WHOLE:
            self.refused(lambda: need_tree((thing, 0, ())), "wait", None)
            self.refused(lambda: need_tree((1, thing, ())), "deep", None)
            self.refused(lambda: need_tree((1, 0, (("a", "", 1), ("b", "a", thing)))), "people", 1)

    def test_of_anything(self):
        for thing in OTHER_KINDS:
            self.assertIs(is_tree(thing), False)
            with self.assertRaises(BadTree):
                need_tree(thing)
            self.refused(lambda: need_tree((1, 0, (("a", "", 1), thing))), "people", 1)

    def test_all_that_ask_of_a_tree_refuse_what_is_none(self):
        for tree, part, number in BAD:
            for ask in ASKED:
                self.refused(lambda: ask(tree), part, number)

    def test_same_tree_refuses_the_one_ahead_of_the_other(self):
        self.refused(lambda: same_tree((0, 0, ()), (1, 9, ())), "wait", None)
        self.refused(lambda: same_tree((1, 0, ()), (1, 9, ())), "deep", None)


class Standing(unittest.TestCase):
    def test_names(self):
        self.assertEqual(names_of(TREE), ("ann", "bob", "cid", "dan", "eve", "fay"))
        self.assertEqual(names_of(EMPTY), ())

    def test_lists(self):
        self.assertEqual(list_of(TREE), ("ann", "bob"))
        self.assertEqual(list_of(TREE, ""), ("ann", "bob"))
        self.assertEqual(list_of(TREE, "ann"), ("cid", "dan"))
        self.assertEqual(list_of(TREE, name="bob"), ("fay",))
        self.assertEqual(list_of(TREE, "eve"), ())
        self.assertEqual(list_of(EMPTY), ())

    def test_lists_are_in_the_order_of_people(self):
        tree = (1, 0, (("b", "", 1), ("z", "", 1), ("c", "b", 1), ("a", "", 1), ("d", "z", 1), ("x", "b", 1)))
        self.assertEqual(list_of(tree), ("b", "z", "a"))
        self.assertEqual(list_of(tree, "b"), ("c", "x"))
        self.assertEqual(below(tree), ("b", "c", "x", "z", "d", "a"))

    def test_below(self):
        self.assertEqual(below(TREE), ("ann", "cid", "eve", "dan", "bob", "fay"))
        self.assertEqual(below(TREE, ""), ("ann", "cid", "eve", "dan", "bob", "fay"))
        self.assertEqual(below(TREE, "ann"), ("cid", "eve", "dan"))
        self.assertEqual(below(TREE, name="cid"), ("eve",))
        self.assertEqual(below(TREE, "fay"), ())
        self.assertEqual(below(EMPTY), ())
        self.assertEqual(below(chain(16), NAMES[0]), NAMES[1:])

    def test_levels(self):
        self.assertEqual([level_of(TREE, name) for name in names_of(TREE)], [1, 1, 2, 2, 3, 2])
        self.assertEqual(level_of(TREE), 0)
        self.assertEqual(level_of(TREE, ""), 0)
        self.assertEqual(level_of(chain(16), name=NAMES[15]), 16)

    def test_callers_and_talks(self):
        self.assertEqual([caller_of(TREE, name) for name in names_of(TREE)], [row[1] for row in PEOPLE])
        self.assertEqual([talk_of(TREE, name=name) for name in names_of(TREE)], [row[2] for row in PEOPLE])

    def test_no_name(self):
        for name in NO_NAME_THERE:
            for ask in (list_of, below, level_of, caller_of, talk_of):
                with self.assertRaises(NoName) as caught:
                    ask(TREE, name)
                self.assertEqual(caught.exception.name, name)

    def test_the_bell_is_no_name_where_it_cannot_be_left_out(self):
        for ask in (caller_of, talk_of):
            with self.assertRaises(NoName) as caught:
                ask(TREE, "")
            self.assertEqual(caught.exception.name, "")

    def test_in_walk(self):
        walked = (2, 0, (PEOPLE[0], PEOPLE[2], PEOPLE[4], PEOPLE[3], PEOPLE[1], PEOPLE[5]))
        self.assertEqual(in_walk(TREE), walked)
        self.assertEqual(in_walk(walked), walked)
        self.assertEqual(in_walk(EMPTY), EMPTY)

    def test_in_walk_is_a_tree_alike(self):
        for tree in list(small_trees(3)) + list(mixed_trees(16, 40, 1)):
            walked = in_walk(tree)
            self.assertIs(is_tree(walked), True)
            self.assertEqual(sorted(walked[2]), sorted(tree[2]))
            self.assertEqual(names_of(walked), below(tree))
            for name in ("",) + names_of(tree):
                self.assertEqual(list_of(walked, name), list_of(tree, name))
            self.assertIs(same_tree(tree, walked), True)

    def test_alike(self):
        self.assertIs(same_tree(TREE, TREE), True)
        one = (1, 0, (("a", "", 1), ("b", "a", 2), ("c", "", 3)))
        self.assertIs(same_tree(one, (1, 0, (("a", "", 1), ("c", "", 3), ("b", "a", 2)))), True)

    def test_not_alike(self):
        one = (1, 0, (("a", "", 1), ("b", "a", 2), ("c", "", 3)))
        for other in (
            (2, 0, one[2]),
            (1, 1, one[2]),
            (1, 0, one[2][:2]),
            (1, 0, (("c", "", 3), ("a", "", 1), ("b", "a", 2))),
            (1, 0, (("a", "", 1), ("b", "", 2), ("c", "", 3))),
            (1, 0, (("a", "", 1), ("b", "a", 3), ("c", "", 3))),
            (1, 0, (("a", "", 1), ("d", "a", 2), ("c", "", 3))),
        ):
            self.assertIs(same_tree(one, other), False)
            self.assertIs(same_tree(other, one), False)


if __name__ == "__main__":
    unittest.main()
