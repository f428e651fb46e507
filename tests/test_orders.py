"""Points [30] and [31]: BLOCKs, trees put IN ORDER, the SOONEST, and how many orders come to the least sum."""

import unittest
from math import factorial

from ringdown.errors import BadAway, BadTree, OutOfPlace
from ringdown.orders import count_orders, in_order, soonest, tails
from ringdown.rings import last_of, quiet_of, told_rows
from ringdown.tree import in_walk
from tests.allorders import all_orders, block_of, comes_to, gone_through, with_lists
from tests.minutes import calls_by_minutes, listed
from tests.samples import EMPTY, HUGE, NAMES, OTHER_KINDS, TREE, AlikeToAll, chain, flat, mixed_trees, small_trees
from tests.samples import subsets, twofold, with_deep

AIMS = ("last", "quiet", "sum")
NO_AIMS = ("", "Last", "lost", "told", "sums", None, True, 0, HUGE, ["last"], ("sum",), b"sum", {}, AlikeToAll())


def walk_names(tree):
    return [row[0] for row in with_lists(tree, {})[2]]


class Tails(unittest.TestCase):
    def test_nobody_away(self):
        self.assertEqual(tails(TREE), [
            ("ann", 3, 6), ("cid", 4, 2), ("eve", 2, 0), ("dan", 1, 0), ("bob", 5, 6), ("fay", 6, 0)])
        self.assertEqual(tails(TREE, which="quiet"), tails(TREE))
        self.assertEqual(tails(TREE, None, "sum"), [
            ("ann", 3, 4), ("cid", 4, 2), ("eve", 2, 1), ("dan", 1, 1), ("bob", 5, 2), ("fay", 6, 1)])

    def test_some_away(self):
        # ann's block is her call, cid's and dan's; dan comes behind cid, whose eve is still to be told.
        self.assertEqual(tails(TREE, ("ann",)), [
            ("ann", 7, 1), ("cid", 4, 2), ("eve", 2, 0), ("dan", 1, 0), ("bob", 5, 6), ("fay", 6, 0)])
        self.assertEqual(tails(TREE, ("dan", "fay")), [
            ("ann", 3, 6), ("cid", 4, 2), ("eve", 2, 0), ("dan", 2, None), ("bob", 5, 0), ("fay", 2, None)])
        self.assertEqual(tails(TREE, ("dan", "fay"), "quiet"), [
            ("ann", 3, 6), ("cid", 4, 2), ("eve", 2, 0), ("dan", 2, 0), ("bob", 5, 2), ("fay", 2, 0)])
        self.assertEqual(tails(TREE, ("bob", "fay"), "sum")[-2:], [("bob", 4, 0), ("fay", 2, 0)])
        self.assertEqual(tails(TREE, ("bob", "fay"))[-2:], [("bob", 4, None), ("fay", 2, None)])

    def test_below_nought(self):
        # b's block goes on with d, for whom nobody answers, when c is told.
        tree = (5, 0, (("b", "", 9), ("c", "b", 1), ("d", "b", 1)))
        self.assertEqual(tails(tree, ("b", "d")), [("b", 11, -5), ("c", 1, 0), ("d", 5, None)])
        self.assertEqual(tails(tree, ("b", "d"), "quiet"), [("b", 11, 0), ("c", 1, 0), ("d", 5, 0)])

    def test_lists_that_are_not_gone_through(self):
        tree = with_deep(1)
        self.assertEqual(tails(tree, ("ann",)), [("ann", 2, None), ("bob", 5, 6), ("fay", 6, 0)])
        self.assertEqual(tails(tree, ("ann",), "quiet"), [("ann", 2, 0), ("bob", 5, 6), ("fay", 6, 0)])
        self.assertEqual(tails(tree, ("ann",), "sum"), [("ann", 2, 0), ("bob", 5, 2), ("fay", 6, 1)])

    def test_no_people(self):
        for which in AIMS:
            self.assertEqual(tails(EMPTY, None, which), [])

    def test_in_walk_order_of_the_tree_handed_in(self):
        tree = (2, 0, (("b", "", 5), ("a", "", 3), ("d", "b", 1), ("c", "a", 9)))
        self.assertEqual(tails(tree), [("b", 5, 1), ("d", 1, 0), ("a", 3, 9), ("c", 9, 0)])

    def test_kinds(self):
        rows = tails(TREE, ("dan",))
        self.assertIs(type(rows), list)
        for row in rows:
            self.assertIs(type(row), tuple)

    def test_read_off_a_ring(self):
        for tree in list(small_trees(4, 2))[::3] + list(mixed_trees(6, 10, 51)):
            for away in list(subsets(row[0] for row in tree[2]))[::2]:
                for which in AIMS:
                    ordered = in_order(tree, away, which)
                    rows = []
                    for name in walk_names(tree):
                        block = block_of(ordered, away, name, which)
                        if block is not None:
                            rows.append((name, block[0], block[2] if which == "sum" else block[1]))
                    self.assertEqual(tails(tree, away, which), rows, (tree, away, which))


class InOrder(unittest.TestCase):
    def test_by_tails_falling(self):
        self.assertEqual([row[0] for row in in_order(TREE)[2]], ["ann", "cid", "eve", "dan", "bob", "fay"])
        tree = (2, 0, (("a", "", 3), ("b", "", 5), ("c", "b", 1)))
        self.assertEqual(in_order(tree), (2, 0, (("b", "", 5), ("c", "b", 1), ("a", "", 3))))
        self.assertEqual(in_order(tree, which="quiet"), in_order(tree))

    def test_by_heads(self):
        tree = (2, 0, (("a", "", 2), ("b", "", 5), ("c", "b", 1)))
        self.assertEqual(in_order(tree, (), "sum"), tree)
        longer = (2, 0, (("a", "", 3), ("b", "", 5), ("c", "b", 1)))
        self.assertEqual([row[0] for row in in_order(longer, (), "sum")[2]], ["b", "c", "a"])

    def test_alike_ones_stay_as_they_stood(self):
        for which in AIMS:
            tree = (2, 0, (("c", "", 3), ("a", "", 3), ("b", "", 3)))
            self.assertEqual(in_order(tree, None, which), tree)
        # By the count of heads: 4 by 2, 2 by 1 and 6 by 3 are alike.
        tree = (1, 0, (("d", "", 9), ("c", "", 4), ("a", "", 2), ("b", "", 6), ("e", "c", 5), ("f", "b", 1), ("g", "b", 1)))
        self.assertEqual([row[0] for row in in_order(tree, (), "sum")[2]], ["c", "e", "a", "b", "f", "g", "d"])

    def test_none_behind_all(self):
        tree = (2, 0, (("b", "", 3), ("a", "", 3), ("d", "", 4), ("c", "", 5), ("e", "d", 1)))
        self.assertEqual([row[0] for row in in_order(tree, ("a", "b"))[2]], ["d", "e", "c", "b", "a"])
        self.assertEqual([row[0] for row in in_order(tree, ("a", "b"), "sum")[2]], ["d", "e", "c", "b", "a"])
        self.assertEqual([row[0] for row in in_order(tree, ("a", "b"), "quiet")[2]], ["d", "e", "b", "a", "c"])

    def test_none_stands_behind_one_below_nought(self):
        tree = (5, 0, (("a", "", 1), ("b", "", 9), ("c", "b", 1), ("d", "b", 1)))
        self.assertEqual(tails(tree, ("a", "b", "d")), [("a", 5, None), ("b", 11, -5), ("c", 1, 0), ("d", 5, None)])
        self.assertEqual([row[0] for row in in_order(tree, ("a", "b", "d"))[2]], ["b", "c", "d", "a"])

    def test_lists_that_are_not_gone_through_stay(self):
        tree = (2, 1, (("a", "", 1), ("b", "", 2), ("c", "a", 1), ("d", "a", 7), ("e", "d", 1)))
        self.assertEqual([row[0] for row in in_order(tree)[2]], ["a", "d", "e", "c", "b"])
        self.assertEqual([row[0] for row in in_order(tree, ("a",))[2]], ["b", "a", "c", "d", "e"])
        deep = with_deep(2, tree)
        self.assertEqual([row[0] for row in in_order(deep, ("a",))[2]], ["a", "d", "e", "c", "b"])

    def test_in_walk_order(self):
        tree = (2, 3, (("b", "", 2), ("a", "", 2), ("d", "b", 2), ("c", "a", 2)))
        for which in AIMS:
            self.assertEqual(in_order(tree, (), which), in_walk(tree))
        self.assertEqual(in_order(EMPTY), EMPTY)

    def test_by_names_of_arguments(self):
        self.assertEqual(in_order(tree=TREE, away=("ann",), which="sum"), in_order(TREE, ("ann",), "sum"))
        self.assertEqual(in_order(TREE), in_order(TREE, (), "last"))
        self.assertEqual(tails(tree=TREE, away=None, which="sum"), tails(TREE, (), "sum"))
        self.assertEqual(soonest(tree=TREE, away=None, which="sum"), soonest(TREE, (), "sum"))
        self.assertEqual(count_orders(tree=TREE, away=None), count_orders(TREE))

    def test_held_against_its_rule(self):
        for tree in mixed_trees(7, 40, 52):
            for away in list(subsets(row[0] for row in tree[2]))[::9]:
                for which in AIMS:
                    self.hold(tree, away, which)

    def hold(self, tree, away, which):
        ordered = in_order(tree, away, which)
        rows = {row[0]: row[1:] for row in tails(tree, away, which)}
        gone = gone_through(tree, away)
        lists = {}
        for name in [""] + [row[0] for row in tree[2]]:
            lists[name] = listed(tree[2], name)
            if name in gone:
                lists[name] = sorted(lists[name], key=lambda each: self.rank(rows[each], which))
        self.assertEqual(ordered, with_lists(tree, lists))

    @staticmethod
    def rank(row, which):
        length, more = row
        if which == "sum":
            # A common multiple of one to seven heads.
            return length * 420 // more if more else 420 * 1000
        return 1000 if more is None else -more


class Soonest(unittest.TestCase):
    def test_by_each_aim(self):
        self.assertEqual([soonest(TREE, None, which) for which in AIMS], [14, 14, 47])
        self.assertEqual([soonest(EMPTY, None, which) for which in AIMS], [0, 0, 0])
        self.assertEqual(soonest(TREE), 14)
        self.assertEqual([soonest(TREE, ("fay",), which) for which in AIMS], [9, 10, 33])

    def test_all_away(self):
        tree = flat(3, 4)
        self.assertEqual([soonest(tree, NAMES[:3], which) for which in AIMS], [0, 12, 0])

    def test_all_orders_gone_through(self):
        for tree in list(small_trees(4, 2))[::2]:
            for away in list(subsets(NAMES[:4]))[::3]:
                self.hold(tree, away)
        for at, tree in enumerate(mixed_trees(6, 40, 53)):
            self.hold(tree, NAMES[at % 5:at % 5 + at % 3])
        self.hold((3, 0, tuple((name, "", at % 3 + 1) for at, name in enumerate(NAMES[:5]))), NAMES[1:2])

    def hold(self, tree, away):
        orders = list(all_orders(tree, away))
        for which in AIMS:
            found = [comes_to(each, away, which) for each in orders]
            self.assertEqual(soonest(tree, away, which), min(found), (tree, away, which))
            self.assertEqual(comes_to(in_order(tree, away, which), away, which), min(found))
        sums = [comes_to(each, away, "sum") for each in orders]
        self.assertEqual(count_orders(tree, away), sums.count(min(sums)), (tree, away))

    def test_what_it_comes_to(self):
        for tree in mixed_trees(9, 20, 54):
            for away in ((), NAMES[2:5]):
                self.assertEqual(soonest(tree, away), last_of(in_order(tree, away), away))
                self.assertEqual(soonest(tree, away, "quiet"), quiet_of(in_order(tree, away, "quiet"), away))
                told = told_rows(in_order(tree, away, "sum"), away)
                self.assertEqual(soonest(tree, away, "sum"), sum(row[0] for row in told))

    def test_sixteen(self):
        for deep in (0, 1, 3):
            for tree in (chain(16, 5, deep), flat(16, 7, deep), twofold(16, 6, deep)):
                for away in ((), NAMES[:1], NAMES[1::3], NAMES):
                    for which in AIMS:
                        least = soonest(tree, away, which)
                        self.assertLessEqual(least, comes_to(tree, away, which))
                        self.assertEqual(comes_to(in_order(tree, away, which), away, which), least)


class Counts(unittest.TestCase):
    def test_alike_ones(self):
        self.assertEqual(count_orders(EMPTY), 1)
        self.assertEqual(count_orders(flat(1)), 1)
        self.assertEqual(count_orders(flat(16)), factorial(16))
        self.assertEqual(count_orders(chain(16)), 1)
        tree = (1, 0, (("a", "", 1), ("b", "", 2), ("c", "", 1), ("d", "", 2), ("e", "", 1), ("f", "", 3)))
        self.assertEqual(count_orders(tree), 6 * 2)
        tree = (1, 0, (("c", "", 4), ("a", "", 2), ("b", "", 6), ("e", "c", 5), ("f", "b", 1), ("g", "b", 1)))
        self.assertEqual(count_orders(tree), 6 * 2)

    def test_those_without_heads_are_alike(self):
        tree = (3, 0, (("a", "", 1), ("b", "", 2), ("c", "", 1), ("d", "b", 1), ("e", "b", 2)))
        self.assertEqual(count_orders(tree, ("a", "c")), 2)
        self.assertEqual(count_orders(tree, ("a", "b", "c", "d", "e")), 6 * 2)
        self.assertEqual(count_orders(with_deep(1, tree), ("a", "b", "c", "d", "e")), 6)

    def test_lists_that_are_not_gone_through_count_once(self):
        tree = (3, 1, (("a", "", 1), ("b", "a", 2), ("c", "a", 2), ("d", "b", 2)))
        self.assertEqual(count_orders(tree), 1)
        self.assertEqual(count_orders(tree, ("d",)), 2)
        self.assertEqual(count_orders(tree, ("a",)), 1)
        self.assertEqual(count_orders((3, 1, tree[2][:3]), ()), 2)
        self.assertEqual(count_orders((3, 1, tree[2][:3]), ("a",)), 1)
        self.assertEqual(count_orders((3, 2, tree[2][:3]), ("a",)), 2)
        self.assertEqual(len(list(all_orders(tree, ("a",)))), 1)


class Refused(unittest.TestCase):
    ASKS = (
        lambda tree, away, which: tails(tree, away, which),
        lambda tree, away, which: in_order(tree, away, which),
        lambda tree, away, which: soonest(tree, away, which),
    )

    def test_in_their_order(self):
        bad_tree = (1, 0, (("a", "", 1), ("a", "", 1)))
        for ask in self.ASKS + (lambda tree, away, which: count_orders(tree, away),):
            with self.assertRaises(BadTree) as caught:
                ask(bad_tree, ("zoe",), "none")
            self.assertEqual((caught.exception.part, caught.exception.number), ("people", 1))
            for away, number in ((("zoe",), 0), (["ann"], None), (("bob", "ann"), 1), (0, None), (AlikeToAll(), None)):
                with self.assertRaises(BadAway) as caught:
                    ask(TREE, away, "none")
                self.assertEqual(caught.exception.number, number)

    def test_no_aims(self):
        for ask in self.ASKS:
            for which in NO_AIMS:
                with self.assertRaises(OutOfPlace):
                    ask(TREE, ("ann",), which)

    def test_of_anything(self):
        for thing in OTHER_KINDS:
            for ask in self.ASKS:
                with self.assertRaises(BadTree):
                    ask(thing, None, "last")
                with self.assertRaises(OutOfPlace):
                    ask(TREE, None, thing)
                if thing is not None and thing != ():
                    with self.assertRaises(BadAway):
                        ask(TREE, thing, "last")
            with self.assertRaises(BadTree):
                count_orders(thing)


if __name__ == "__main__":
    unittest.main()
