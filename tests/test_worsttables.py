"""Points [21] to [23], [26]: TABLEs of the WORST, and PAPERs that show it."""

import unittest

from ringdown.errors import BadAway, BadTree, NoName, OutOfPlace
from ringdown.worst import measure_of, worst, worsts
from ringdown.worstcheck import check_worst
from ringdown.worsttables import worst_paper, worst_table
from tests.samples import (
    EMPTY, HUGE, NAMES, OTHER_KINDS, TREE, chain, flat, mixed_trees, small_trees, subsets, twofold, with_deep,
)
from tests.spotmodel import table_by_going_through

ALONE = ("last", "quiet", "lost")
TWO = (5, 0, (("a", "", 3), ("b", "a", 2)))


def questions(names):
    return [(which, "") for which in ALONE] + [("told", name) for name in names]


class Tables(unittest.TestCase):
    def test_two_people(self):
        self.assertEqual(worst_table(TWO, 2), (("b", 0, (2, 5, 5), (2, 2, 2)), ("a", 0, (3, 7, 10), (5, 7, 7))))
        self.assertEqual(
            worst_table(TWO, 2, "quiet"), (("b", 0, (2, 5, 5), (2, 5, 5)), ("a", 0, (3, 7, 10), (5, 8, 10))))
        self.assertEqual(
            worst_table(TWO, 1, "lost"), (("b", 0, (2, 5), (0, 0)), ("a", 0, (3, 7), (0, 0))))
        self.assertEqual(
            worst_table(TWO, 1, "told", "a"), (("b", 0, (2, 5), (-1, -1)), ("a", 0, (3, 3), (3, 3))))
        self.assertEqual(
            worst_table(TWO, 1, "told", "b"), (("b", 0, (2, 2), (2, 2)), ("a", 0, (3, 7), (5, 7))))

    def test_by_sheets(self):
        tree = (5, 2, TWO[2])
        self.assertEqual(worst_table(tree, 1, "lost"), (
            ("b", 1, (2, 5), (0, 0)), ("b", 2, (2, 5), (0, 0)), ("a", 1, (3, 5), (0, 1)), ("a", 2, (3, 7), (0, 0))))
        self.assertEqual(worst_table(tree, 1, "last", sure=("b",)), (
            ("b", 1, (2, 2), (2, 2)), ("b", 2, (2, 2), (2, 2)), ("a", 1, (3, 5), (5, 5)), ("a", 2, (3, 7), (5, 7))))

    def test_none_to_be_told_or_at_the_end(self):
        # Nobody below one who is sure, and no LIST to go on with behind one who is away.
        self.assertEqual(worst_table((9, 1, (("a", "", 4),)), 1), (("a", 1, (4, 9), (4, 4)),))
        self.assertEqual(worst_table((9, 1, (("a", "", 4),)), 1, "quiet"), (("a", 1, (4, 9), (4, 9)),))
        self.assertEqual(worst_table((9, 1, (("a", "", 4),)), 1, sure=("a",)), (("a", 1, (4, 4), (4, 4)),))

    def test_no_people(self):
        for which in ALONE:
            self.assertEqual(worst_table(EMPTY, 3, which), ())
            self.assertEqual(worst_paper(EMPTY, 3, which), ((), ()))

    def test_numbers_by_more_than_there_are(self):
        self.assertEqual(worst_table(TWO, 5)[1], ("a", 0, (3, 7, 10, 10, 10, 10), (5, 7, 7, 7, 7, 7)))
        self.assertEqual(worst_table(TWO, 0)[1], ("a", 0, (3,), (5,)))

    def test_by_names_of_arguments(self):
        self.assertEqual(
            worst_table(tree=TWO, many=1, which="told", name="b", sure=("a",)),
            (("b", 0, (2, 2), (2, 2)), ("a", 0, (3, 3), (5, 5))))
        self.assertEqual(worst_table(TWO, 1, "last", "", None), worst_table(TWO, 1, "last", "", ()))

    def test_the_order_of_spots(self):
        spots = [row[:2] for row in worst_table(with_deep(3), 1)]
        names = ("fay", "eve", "dan", "cid", "bob", "ann")
        self.assertEqual(spots, [(name, sight) for name in names for sight in (1, 2, 3)])
        self.assertEqual([row[:2] for row in worst_table(TREE, 1)], [(name, 0) for name in names])

    def test_kinds(self):
        table = worst_table(with_deep(2), 2, "told", "eve")
        self.assertIs(type(table), tuple)
        for row in table:
            self.assertEqual([type(each) for each in row], [str, int, tuple, tuple])
            self.assertEqual([len(row[2]), len(row[3])], [3, 3])
            for number in row[2] + row[3]:
                self.assertIs(type(number), int)

    def test_small_trees_gone_through(self):
        for many in range(4):
            for tree in small_trees(many, 4):
                for sure in list(subsets(NAMES[:many]))[::max(many, 1)]:
                    for which, name in questions(NAMES[:many]):
                        self.hold(tree, many, which, name, sure)

    def test_mixed_trees_gone_through(self):
        for at, tree in enumerate(mixed_trees(6, 40, 11)):
            for which, name in questions(NAMES[at % 2:6:3]):
                self.hold(tree, at % 7, which, name, NAMES[at % 6:at % 6 + at % 2])

    def hold(self, tree, many, which, name, sure):
        right = table_by_going_through(tree, many, which, name, sure)
        self.assertEqual(worst_table(tree, many, which, name, sure), right, (tree, many, which, name, sure))


class Papers(unittest.TestCase):
    def hold(self, tree, many, which="last", name="", sure=None):
        away, table = worst_paper(tree, many, which, name, sure)
        self.assertEqual(table, worst_table(tree, many, which, name, sure))
        self.assertLessEqual(len(away), many)
        self.assertEqual(list(away), sorted(set(away)))
        self.assertFalse(set(away) & (set(sure or ()) | {name}))
        most = worst(tree, many, which, name, sure)
        self.assertEqual(measure_of(tree, away, which, name), most)
        self.assertEqual(check_worst(tree, many, (away, table), which, name, sure), most)

    def test_of_mixed_trees(self):
        for at, tree in enumerate(mixed_trees(7, 30, 12)):
            for which, name in questions(NAMES[at % 4:7:4]):
                for sure in (None, NAMES[at % 3:5]):
                    self.hold(tree, at % 9, which, name, sure)

    def test_kinds(self):
        paper = worst_paper(TREE, 2)
        self.assertIs(type(paper), tuple)
        self.assertEqual([type(each) for each in paper], [tuple, tuple])

    def test_of_sixteen(self):
        for deep in range(5):
            for tree in (chain(16, 5, deep), flat(16, 7, deep), twofold(16, 6, deep)):
                for which, name in questions(NAMES[15:]):
                    self.hold(tree, 16, which, name)
                    self.assertEqual(len(worst_table(tree, 16, which, name)), 16 * max(deep, 1))
        self.hold(twofold(16, 9, 3), 7, "last", "", NAMES[::3])

    def test_the_table_beside_the_worst(self):
        # In one list the last row's caller is held by nobody, so the list makes what the worst is.
        tree = (5, 0, (("a", "", 3), ("b", "a", 2), ("c", "b", 1)))
        for which in ALONE:
            row = worst_table(tree, 3, which)[-1]
            self.assertEqual(row[3], worsts(tree, which))


class Refused(unittest.TestCase):
    def test_in_their_order(self):
        bad_tree = (1, 0, (("a", "", 1), ("a", "", 1)))
        for ask in (worst_table, worst_paper):
            with self.assertRaises(BadTree) as caught:
                ask(bad_tree, -1, "none", "zoe", ("zoe",))
            self.assertEqual((caught.exception.part, caught.exception.number), ("people", 1))
            for many in (-1, 17, True, None, "1", HUGE, -HUGE, (1,)):
                with self.assertRaises(OutOfPlace):
                    ask(TREE, many, "told", "zoe", ("zoe",))
            for which in ("none", None, True, 0, ["last"], HUGE):
                with self.assertRaises(OutOfPlace):
                    ask(TREE, 1, which, "zoe", ("zoe",))
            for name in ("zoe", "", None, 0, HUGE, ("ann",)):
                with self.assertRaises(NoName) as caught:
                    ask(TREE, 1, "told", name, ("zoe",))
                self.assertEqual(caught.exception.name, name)
            for name in ("ann", "zoe", None, 0, ()):
                with self.assertRaises(OutOfPlace):
                    ask(TREE, 1, "quiet", name, ("zoe",))
            for sure, number in ((("zoe",), 0), (["ann"], None), (("bob", "ann"), 1), (0, None)):
                with self.assertRaises(BadAway) as caught:
                    ask(TREE, 1, "last", "", sure)
                self.assertEqual(caught.exception.number, number)

    def test_of_anything(self):
        for thing in OTHER_KINDS:
            for ask in (worst_table, worst_paper):
                with self.assertRaises(BadTree):
                    ask(thing, 1)


if __name__ == "__main__":
    unittest.main()
