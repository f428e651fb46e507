"""Point [32]: PAPERs of orders, their GROUPs and BOUNDs."""

import unittest
from itertools import permutations, product

from ringdown.errors import BadAway, BadPaper, BadTree, OutOfPlace
from ringdown.ordercheck import check_order, order_paper
from ringdown.orders import soonest, tails
from tests.allorders import all_orders, comes_to, gone_through, with_lists
from tests.minutes import listed
from tests.samples import EMPTY, HUGE, NAMES, OTHER_KINDS, TREE, AlikeToAll, chain, flat, mixed_trees, small_trees
from tests.samples import subsets, twofold, with_deep

AIMS = ("last", "quiet", "sum")
TWO = (2, 0, (("a", "", 3), ("b", "", 5), ("c", "b", 1)))


def groups_of(names):
    """All that may be a GROUP for last and quiet, where each has a TAIL."""
    for taken in product((False, True), repeat=len(names)):
        if any(taken):
            yield tuple(name for name, is_taken in zip(names, taken) if is_taken)


class Held(unittest.TestCase):
    def refuse(self, place, *asked, **named):
        with self.assertRaises(BadPaper) as caught:
            check_order(*asked, **named)
        self.assertEqual(caught.exception.place, place)


class Told(Held):
    def test_by_hand(self):
        self.assertEqual(check_order(TWO, order_paper(TWO)), 8)
        self.assertEqual(order_paper(TWO, None, "sum"), [("", ("b", "a")), ("b", ("c",))])
        self.assertEqual(order_paper(EMPTY), [])
        for which in AIMS:
            self.assertEqual(order_paper(EMPTY, (), which), [])
            self.assertEqual(check_order(EMPTY, [], (), which), 0)

    def test_by_names_of_arguments(self):
        paper = order_paper(tree=TREE, away=("ann",), which="sum")
        self.assertEqual(check_order(tree=TREE, paper=paper, away=("ann",), which="sum"), soonest(TREE, ("ann",), "sum"))

    def test_kinds(self):
        for which in AIMS:
            paper = order_paper(TREE, ("ann",), which)
            self.assertIs(type(paper), list)
            for row in paper:
                self.assertEqual([type(each) for each in row], [str, tuple])
            self.assertIs(type(check_order(TREE, paper, ("ann",), which)), int)

    def test_rows_only_of_lists_that_have_heads(self):
        everyone = ("ann", "bob", "cid", "dan", "eve", "fay")
        for which, names in (("last", []), ("sum", []), ("quiet", ["", "ann", "cid", "bob"])):
            self.assertEqual([row[0] for row in order_paper(TREE, everyone, which)], names)
            self.assertEqual(check_order(TREE, order_paper(TREE, everyone, which), everyone, which),
                             12 if which == "quiet" else 0)
        for which, names in (("last", ["", "ann"]), ("quiet", ["", "ann", "cid", "bob"]), ("sum", ["", "ann"])):
            self.assertEqual([row[0] for row in order_paper(TREE, ("eve", "fay"), which)], names)

    def test_rows_only_of_lists_that_are_gone_through(self):
        tree = with_deep(1)
        for which in AIMS:
            self.assertEqual([row[0] for row in order_paper(tree, ("ann",), which)], ["", "bob"])
            self.assertEqual([row[0] for row in order_paper(with_deep(2), ("ann",), which)], ["", "ann", "cid", "bob"])
            self.assertEqual([row[0] for row in order_paper(with_deep(2), ("ann", "cid"), which)], ["", "ann", "bob"])

    def test_in_walk_order_of_the_tree_handed_in(self):
        tree = (2, 0, (("a", "", 1), ("b", "", 5), ("d", "b", 1), ("c", "a", 1), ("f", "d", 1), ("e", "c", 1)))
        for which in AIMS:
            self.assertEqual([row[0] for row in order_paper(tree, (), which)], ["", "a", "c", "b", "d"])

    def test_told_papers_show_the_soonest(self):
        for tree in list(small_trees(4, 2))[::2] + list(mixed_trees(7, 30, 61)):
            for away in list(subsets(row[0] for row in tree[2]))[::5]:
                for which in AIMS:
                    paper = order_paper(tree, away, which)
                    self.assertEqual(check_order(tree, paper, away, which), soonest(tree, away, which))

    def test_sixteen(self):
        for deep in (0, 1, 3):
            for tree in (chain(16, 5, deep), flat(16, 7, deep), twofold(16, 6, deep)):
                for away in ((), NAMES[:1], NAMES[1::3], NAMES):
                    for which in AIMS:
                        paper = order_paper(tree, away, which)
                        self.assertEqual(check_order(tree, paper, away, which), soonest(tree, away, which))


class Groups(Held):
    def test_bounds_of_one_list(self):
        tree = (2, 0, (("a", "", 3), ("b", "", 5), ("c", "b", 1), ("d", "", 2)))
        for group, bound in ((("a",), 3), (("b",), 6), (("d",), 2), (("a", "b"), 8), (("b", "d"), 7), (("a", "d"), 5),
                             (("a", "b", "d"), 10)):
            self.assertEqual(check_order(tree, [("", group), ("b", ("c",))]), bound)

    def test_bounds_by_those_of_the_rows_below(self):
        tree = (2, 0, (("a", "", 1), ("b", "a", 2), ("c", "a", 3)))
        for group, bound in ((("b",), 3), (("c",), 4), (("b", "c"), 6)):
            self.assertEqual(check_order(tree, [("", ("a",)), ("a", group)]), bound)

    def test_an_end_of_one_without_a_row(self):
        tree = (4, 0, (("a", "", 1), ("b", "a", 2)))
        self.assertEqual(check_order(tree, [("", ("a",))], ("b",)), 1)
        self.assertEqual(check_order(tree, [("", ("a",)), ("a", ("b",))], ("b",), "quiet"), 5)
        self.assertEqual(check_order(tree, [("", ("a",)), ("a", ("b",))], ("a",)), 6)
        self.assertEqual(check_order((4, 1) + tree[2:], [("", ("a",))], ("a",), "quiet"), 4)

    def test_a_tail_below_nought(self):
        tree = (5, 0, (("b", "", 9), ("c", "b", 1), ("d", "b", 1), ("e", "", 2)))
        rows = [("", ("b",)), ("b", ("c",))]
        self.assertEqual(check_order(tree, rows, ("b", "d")), 6)
        self.assertEqual(check_order(tree, [("", ("b", "e"))] + rows[1:], ("b", "d")), 8)
        self.assertEqual(soonest(tree, ("b", "d")), 8)

    def test_all_groups_gone_through(self):
        for tree in list(small_trees(3, 2)) + list(mixed_trees(5, 25, 62)):
            for away in list(subsets(row[0] for row in tree[2]))[::3]:
                for which in ("last", "quiet"):
                    self.hold(tree, away, which)

    def hold(self, tree, away, which):
        least = min(comes_to(each, away, which) for each in all_orders(tree, away))
        rows = {row[0]: row[1:] for row in tails(tree, away, which)}
        names = [row[0] for row in order_paper(tree, away, which)]
        shown = []
        ends = {name: [each for each in listed(tree[2], name) if rows[each][1] is not None] for name in names}
        for chosen in product(*[groups_of(ends[name]) for name in names]):
            paper = list(zip(names, chosen))
            bound = self.bound(tree, away, which, dict(paper), rows, "")
            self.assertEqual(check_order(tree, paper, away, which), bound)
            self.assertLessEqual(bound, least)
            shown.append(bound)
        self.assertEqual(max(shown), least)

    def bound(self, tree, away, which, groups, rows, name):
        """Reckoned from above: BOUND of the row of a name, 0 without one."""
        if name not in groups:
            return 0
        talks = {row[0]: row[2] for row in tree[2]}
        found = []
        for each in groups[name]:
            end = (tree[0] if each in away else talks[each]) + self.bound(tree, away, which, groups, rows, each)
            found.append(end - rows[each][0])
        return sum(rows[each][0] for each in groups[name]) + min(found)


class Sums(Held):
    def test_all_orders_gone_through(self):
        for tree in list(small_trees(4, 2))[::4] + list(mixed_trees(5, 30, 63)):
            for away in list(subsets(row[0] for row in tree[2]))[::5]:
                self.hold(tree, away)

    def hold(self, tree, away):
        names = [row[0] for row in order_paper(tree, away, "sum")]
        least = min(comes_to(each, away, "sum") for each in all_orders(tree, away))
        heads = {row[0]: row[1:] for row in tails(tree, away, "sum")}
        gone = gone_through(tree, away)
        # Lists that have no heads have no row: their orders come to the same.
        for name in names:
            self.assertIn(name, gone)
        for chosen in product(*[permutations(listed(tree[2], name)) for name in names]):
            paper = list(zip(names, chosen))
            wrong = [number for number, group in enumerate(chosen) if not self.stands(group, heads)]
            if wrong:
                self.refuse(wrong[0], tree, paper, away, "sum")
            else:
                found = check_order(tree, paper, away, "sum")
                self.assertEqual(found, comes_to(with_lists(tree, dict(paper)), away, "sum"))
                self.assertEqual(found, least)

    @staticmethod
    def stands(group, heads):
        for ahead, each in zip(group, group[1:]):
            if heads[each][0] * heads[ahead][1] < heads[ahead][0] * heads[each][1]:
                return False
        return True

    def test_alike_ones_in_any_order(self):
        tree = flat(3, 2)
        for group in permutations(NAMES[:3]):
            self.assertEqual(check_order(tree, [("", group)], (), "sum"), 3 + 6 + 9)
            # Those of whom none is told are alike, and stand behind all.
            if group[2] == NAMES[1]:
                self.assertEqual(check_order(tree, [("", group)], NAMES[1:2], "sum"), 3 + 6)
            else:
                self.refuse(0, tree, [("", group)], NAMES[1:2], "sum")


class Spoiled(Held):
    def setUp(self):
        self.asked = []
        for tree in (TREE, with_deep(1), TWO, chain(3, 4), twofold(5, 2)):
            for away in ((), (tree[2][0][0],), (tree[2][1][0],)):
                for which in AIMS:
                    self.asked.append((tree, away, which, order_paper(tree, away, which)))

    def test_no_list(self):
        for tree, away, which, paper in self.asked:
            for thing in (None, tuple(paper), (), dict(paper), "", 0, True, {}, HUGE, AlikeToAll()):
                self.refuse(None, tree, thing, away, which)

    def test_rows_that_lack_or_are_too_many(self):
        for tree, away, which, paper in self.asked:
            for number, row in enumerate(paper):
                self.refuse(number, tree, paper[:number], away, which)
                self.refuse(number, tree, paper[:number] + paper[number + 1:], away, which)
                self.refuse(len(paper), tree, paper + [row], away, which)
                if number:
                    self.refuse(0, tree, paper[number:number + 1] + paper[:number], away, which)
            for thing in (None, (), ("zoe", ("zoe",)), ("", ())):
                self.refuse(len(paper), tree, paper + [thing], away, which)

    def test_a_row_of_a_list_without_heads(self):
        self.refuse(1, TWO, [("", ("a",)), ("b", ("c",))], ("c",))
        self.assertEqual(check_order(TWO, [("", ("a",)), ("b", ("c",))], ("c",), "quiet"), 3)
        self.refuse(1, TWO, [("", ("a", "b")), ("b", ("c",))], ("c",), "sum")
        self.refuse(1, TWO, [("", ("a",)), ("a", ()), ("b", ("c",))])

    def test_no_rows(self):
        for tree, away, which, paper in self.asked:
            for number, row in enumerate(paper):
                name, group = row
                for thing in (None, (), list(row), (name,), row + (0,), name, HUGE, True, AlikeToAll(), {},
                              ("zoe", group), (None, group), (0, group), (AlikeToAll(), group), ([name], group),
                              (name, list(group)), (name, None), (name, ()), (name, "".join(group)), (name, AlikeToAll()),
                              (name, group + group[:1]), (name, group + ("zoe",)), (name, group[:-1] + (None,)),
                              (name, group[:-1] + (AlikeToAll(),)), (name, group[:-1] + ([],)), (name, group[:-1] + ("",)),
                              (name, group[:-1] + (HUGE,)), (name, (group,)), (name, group[:-1] + (True,))):
                    self.refuse(number, tree, paper[:number] + [thing] + paper[number + 1:], away, which)

    def test_names_of_another_list(self):
        self.refuse(0, TREE, [("", ("ann", "cid"))] + order_paper(TREE)[1:])
        self.refuse(1, TREE, [("", ("ann",)), ("ann", ("bob",))] + order_paper(TREE)[2:])

    def test_not_in_the_order_of_the_tree(self):
        for which in ("last", "quiet"):
            self.assertEqual(check_order(TREE, [("", ("ann", "bob"))] + order_paper(TREE, None, which)[1:], None, which), 14)
            self.refuse(0, TREE, [("", ("bob", "ann"))] + order_paper(TREE, None, which)[1:], None, which)
        turned = (2, 0, (("b", "", 1), ("a", "", 1)))
        self.assertEqual(check_order(turned, [("", ("b", "a"))]), 2)
        self.refuse(0, turned, [("", ("a", "b"))])

    def test_no_heads_in_a_group(self):
        rows = [("ann", ("cid", "dan")), ("cid", ("eve",)), ("bob", ("fay",))]
        self.refuse(1, TREE, [("", ("ann",))] + rows, ("dan",))
        self.assertEqual(check_order(TREE, [("", ("ann",))] + rows, ("dan",), "quiet"), 9)
        self.refuse(0, TWO, [("", ("a", "b")), ("b", ("c",))], ("a",))
        self.assertEqual(check_order(TWO, [("", ("b",)), ("b", ("c",))], ("a",)), 6)

    def test_sums_that_lack_names(self):
        for tree, away, which, paper in self.asked:
            for number, row in enumerate(paper):
                if which == "sum" and len(row[1]) > 1:
                    for group in (row[1][1:], row[1][:-1], row[1][:1] * len(row[1])):
                        self.refuse(number, tree, paper[:number] + [(row[0], group)] + paper[number + 1:], away, which)

    def test_sums_in_another_order(self):
        self.refuse(0, TWO, [("", ("a", "b")), ("b", ("c",))], None, "sum")
        self.assertEqual(check_order(TWO, [("", ("b", "a")), ("b", ("c",))], None, "sum"), 5 + 6 + 8)

    def test_only_the_one_right_ahead_is_looked_at(self):
        # Among blocks with heads that says all; the first wrong row is told, whatever stands behind.
        self.refuse(0, TREE, [("", ("bob", "ann")), None, None], None, "sum")
        self.refuse(1, TREE, [("", ("ann", "bob")), ("ann", ("cid", "dan")), None], None, "sum")

    def test_by_another_aim(self):
        paper = order_paper(TREE, ("fay",), "quiet")
        self.refuse(3, TREE, paper, ("fay",))
        self.refuse(3, TREE, order_paper(TREE, ("fay",)), ("fay",), "quiet")


class Refused(Held):
    def test_in_their_order(self):
        bad_tree = (1, 0, (("a", "", 1), ("a", "", 1)))
        for ask in (order_paper, lambda tree, away, which: check_order(tree, None, away, which)):
            with self.assertRaises(BadTree) as caught:
                ask(bad_tree, ("zoe",), "none")
            self.assertEqual((caught.exception.part, caught.exception.number), ("people", 1))
            for away, number in ((("zoe",), 0), (["ann"], None), (("bob", "ann"), 1), (0, None), (AlikeToAll(), None)):
                with self.assertRaises(BadAway) as caught:
                    ask(TREE, away, "none")
                self.assertEqual(caught.exception.number, number)
            for which in ("", "lost", "told", None, True, 0, HUGE, ["last"], AlikeToAll()):
                with self.assertRaises(OutOfPlace):
                    ask(TREE, ("ann",), which)

    def test_of_anything(self):
        for thing in OTHER_KINDS:
            with self.assertRaises(BadTree):
                order_paper(thing)
            with self.assertRaises(BadTree):
                check_order(thing, [])
            if isinstance(thing, list):
                self.refuse(0, TREE, thing)
            else:
                self.refuse(None, TREE, thing)
            self.refuse(0, TREE, [thing])

    def test_papers_handed_in_are_not_changed(self):
        paper = order_paper(TREE, None, "sum")
        kept = list(paper)
        check_order(TREE, paper, None, "sum")
        self.assertEqual(paper, kept)


if __name__ == "__main__":
    unittest.main()
