"""Point [27]: FEWEST, its PAPERs, and whom to make sure of."""

import unittest

from ringdown.errors import BadAway, BadPaper, BadTree, NoName, OutOfPlace
from ringdown.fewest import best_sure, fewest, fewest_paper
from ringdown.worst import measure_of, worst, worsts
from ringdown.worstcheck import check_fewest
from ringdown.worsttables import worst_table
from tests.minutes import measure_by_minutes
from tests.samples import EMPTY, HUGE, NAMES, OTHER_KINDS, TREE, AlikeToAll, chain, flat, mixed_trees, small_trees
from tests.samples import subsets, twofold, with_deep

ALONE = ("last", "quiet", "lost")
TWO = (5, 0, (("a", "", 3), ("b", "", 2)))
NO_LEAST = (-1, 100000, True, False, None, "1", 1.0, (1,), [1], HUGE, -HUGE, AlikeToAll())


def questions(names):
    return [(which, "") for which in ALONE] + [("told", name) for name in names]


def fewest_by_going_through(tree, least, which, name="", sure=()):
    counts = []
    for away in subsets([row[0] for row in tree[2] if row[0] not in sure and row[0] != name]):
        measure = measure_by_minutes(tree, away, which, name)
        if measure is not None and measure >= least:
            counts.append(len(away))
    return min(counts, default=None)


class Fewest(unittest.TestCase):
    def test_two_people(self):
        self.assertEqual(worsts(TWO, "quiet"), (5, 8, 10))
        for least, many in ((0, 0), (1, 0), (5, 0), (6, 1), (8, 1), (9, 2), (10, 2), (11, None), (99999, None)):
            self.assertEqual(fewest(TWO, least, "quiet"), many)
        self.assertEqual(fewest(TWO, 7), 1)
        self.assertIsNone(fewest(TWO, 8))
        self.assertEqual(fewest(TWO, 7, "told", "b"), 1)
        self.assertIsNone(fewest(TWO, 7, "told", "b", ("a",)))
        self.assertIsNone(fewest(TWO, 4, "told", "a"))
        self.assertEqual(fewest(tree=TWO, least=9, which="quiet", name="", sure=None), 2)
        self.assertEqual(fewest(TWO, 8, "quiet", "", ("a",)), 1)
        self.assertIsNone(fewest(TWO, 9, "quiet", "", ("a",)))

    def test_no_people(self):
        for which in ALONE:
            self.assertEqual(fewest(EMPTY, 0, which), 0)
            self.assertIsNone(fewest(EMPTY, 1, which))

    def test_lost(self):
        tree = chain(4, 1, 2)
        self.assertEqual([fewest(tree, least, "lost") for least in range(4)], [0, 2, 2, None])

    def test_trees_gone_through(self):
        for tree in small_trees(3, 4):
            for which, name in questions(NAMES[:3]):
                for sure in ((), NAMES[1:2]):
                    for least in range(0, 22, 3):
                        self.hold(tree, least, which, name, sure)
        for at, tree in enumerate(mixed_trees(5, 12, 41)):
            for which, name in questions(NAMES[at % 2:5:2]):
                for least in (0, 1, 2, 3, 8, 13, 21, 34, 55):
                    self.hold(tree, least, which, name, NAMES[at % 5:at % 6])

    def hold(self, tree, least, which, name, sure):
        right = fewest_by_going_through(tree, least, which, name, sure)
        self.assertEqual(fewest(tree, least, which, name, sure), right)
        away, table = fewest_paper(tree, least, which, name, sure)
        self.assertEqual(check_fewest(tree, least, (away, table), which, name, sure), right)
        if right is None:
            self.assertIsNone(away)
            self.assertEqual(table, worst_table(tree, len(tree[2]), which, name, sure))
        elif right == 0:
            self.assertEqual((away, table), ((), ()))
        else:
            self.assertEqual(len(away), right)
            self.assertEqual(table, worst_table(tree, right - 1, which, name, sure))
            self.assertGreaterEqual(measure_of(tree, away, which, name), least)


class Papers(unittest.TestCase):
    def refuse(self, place, *asked, **named):
        with self.assertRaises(BadPaper) as caught:
            check_fewest(*asked, **named)
        self.assertEqual(caught.exception.place, place)

    def test_told(self):
        self.assertEqual(fewest_paper(TWO, 5, "quiet"), ((), ()))
        self.assertEqual(fewest_paper(TWO, 7), (("a",), (("b", 0, (2,), (2,)), ("a", 0, (3,), (3,)))))
        self.assertEqual(
            fewest_paper(TWO, 11, "quiet"), (None, (("b", 0, (2, 5, 5), (2, 5, 5)), ("a", 0, (3, 5, 5), (3, 5, 5)))))
        self.assertEqual(fewest_paper(EMPTY, 1), (None, ()))
        self.assertEqual(fewest_paper(EMPTY, 0), ((), ()))
        self.assertEqual(fewest_paper(tree=TWO, least=4, which="told", name="b", sure=("a",))[0], ())
        self.assertIsNone(fewest_paper(TWO, 6, "told", "b", ("a",))[0])

    def test_of_no_people(self):
        self.assertEqual(check_fewest(EMPTY, 0, ((), ())), 0)
        self.assertIsNone(check_fewest(EMPTY, 1, (None, ())))
        self.refuse(1, EMPTY, 0, (None, ()))
        self.refuse(0, EMPTY, 1, ((), ()))
        self.refuse(1, EMPTY, 1, (None, (("a", 0, (1,), (1,)),)))

    def test_of_nobody_away(self):
        self.assertEqual(check_fewest(TWO, 5, ((), ())), 0)
        self.refuse(0, TWO, 6, ((), ()))
        # Beside nobody stands no row at all.
        for rows in (worst_table(TWO, 0), worst_table(TWO, 1), (None,), ((),)):
            self.refuse(1, TWO, 5, ((), rows))
            self.refuse(0, TWO, 6, ((), rows))
        self.refuse(None, TWO, 5, ((), []))
        self.refuse(None, TWO, 5, ((), None))

    def test_of_more_away_ones_than_do(self):
        # With a table of one fewer, that allows least or more.
        paper = (("a", "b"), worst_table(TWO, 1, "quiet"))
        self.assertEqual(check_fewest(TWO, 9, paper, "quiet"), 2)
        self.assertEqual(check_fewest(TWO, 10, paper, "quiet"), 2)
        self.refuse(0, TWO, 11, paper, "quiet")
        self.refuse(3, TWO, 8, paper, "quiet")
        self.refuse(1, TWO, 8, (("b",), worst_table(TWO, 1, "quiet")), "quiet")
        self.refuse(1, TWO, 9, (("a", "b"), worst_table(TWO, 0, "quiet")), "quiet")
        self.refuse(1, TWO, 9, (("a", "b"), worst_table(TWO, 2, "quiet")), "quiet")
        self.refuse(1, TWO, 9, (("a", "b"), ()), "quiet")

    def test_of_none(self):
        table = worst_table(TWO, 2, "quiet")
        self.assertIsNone(check_fewest(TWO, 11, (None, table), "quiet"))
        self.assertIsNone(check_fewest(TWO, 99999, (None, table), "quiet"))
        self.refuse(3, TWO, 10, (None, table), "quiet")
        self.refuse(3, TWO, 0, (None, table), "quiet")
        for many in (0, 1, 3, 16):
            self.refuse(1, TWO, 11, (None, worst_table(TWO, many, "quiet")), "quiet")
        self.refuse(3, TWO, 11, (None, table + table[:1]), "quiet")
        self.refuse(2, TWO, 11, (None, table[:1]), "quiet")

    def test_numbers_too_great(self):
        table = (("b", 0, (2,), (2,)), ("a", 0, (3,), (4,)))
        self.assertEqual(check_fewest(TWO, 7, (("a",), table)), 1)
        table = (("b", 0, (99999,), (3,)), ("a", 0, (3,), (6,)))
        self.assertEqual(check_fewest(TWO, 7, (("a",), table)), 1)
        for table in ((("b", 0, (2,), (4,)), ("a", 0, (3,), (3,))), (("b", 0, (2,), (2,)), ("a", 0, (3,), (7,))),
                      (("b", 0, (2,), (2,)), ("a", 0, (5,), (3,)))):
            self.refuse(3, TWO, 7, (("a",), table))

    def test_away_ones(self):
        table = worst_table(TREE, 1)
        self.assertEqual(fewest(TREE, 19), 2)
        self.assertEqual(check_fewest(TREE, 19, (("ann", "dan"), table)), 2)
        for away in ([], ["ann", "dan"], "", 0, False, True, {}, ("ann", "zoe"), ("dan", "ann"), ("ann", "ann"),
                     (None, "ann"), ("ann",), HUGE, AlikeToAll(), ("ann", AlikeToAll())):
            self.refuse(0, TREE, 19, (away, table))
            self.refuse(0, TREE, 19, (away, (None,)))
        self.refuse(0, TREE, 19, (("ann", "dan"), table), "last", "", ("dan",))
        self.refuse(0, TREE, 1, (("bob",), worst_table(TREE, 0, "told", "bob")), "told", "bob")
        deep = with_deep(1)
        self.refuse(0, deep, 1, (("ann",), worst_table(deep, 0, "told", "cid")), "told", "cid")

    def test_spoiled(self):
        for tree in (with_deep(2), TREE, TWO):
            for which, name in questions([tree[2][1][0]]):
                least = worst(tree, 2, which, name) + (which == "lost")
                paper = fewest_paper(tree, least, which, name)
                self.spoil(tree, least, paper, which, name)
                self.spoil(tree, 9999, fewest_paper(tree, 9999, which, name), which, name)

    def spoil(self, tree, least, paper, which, name):
        away, table = paper
        for thing in (None, (), (away,), (away, table, 0), [away, table], (away, list(table)), (away, None), True):
            self.refuse(None, tree, least, thing, which, name)
        for number, row in enumerate(table):
            ahead, behind = table[:number], table[number + 1:]
            self.refuse(number + 1, tree, least, (away, ahead), which, name)
            self.refuse(number + 1, tree, least, (away, ahead + behind), which, name)
            for thing in (None, (), list(row), row[:3], ("zoe",) + row[1:], (row[0], row[1] + 1) + row[2:],
                          row[:2] + (row[2][1:], row[3]), row[:3] + ((True,) + row[3][1:],),
                          row[:3] + (row[3][:-1] + (100000,),), row[:2] + ((row[2][0] - 1,) + row[2][1:], row[3])):
                self.refuse(number + 1, tree, least, (away, ahead + (thing,) + behind), which, name)
        self.refuse(len(table) + 1, tree, least, (away, table + (None,)), which, name)

    def test_of_sixteen(self):
        for deep in (0, 3):
            for tree in (chain(16, 5, deep), flat(16, 7, deep), twofold(16, 6, deep)):
                for which, name in questions(NAMES[15:]):
                    numbers = worsts(tree, which, name)
                    for many in (0, 1, 8, 15, 16):
                        least = numbers[many]
                        right = numbers.index(least)
                        self.assertEqual(fewest(tree, least, which, name), right)
                        paper = fewest_paper(tree, least, which, name)
                        self.assertEqual(check_fewest(tree, least, paper, which, name), right)
                    least = numbers[16] + 1
                    self.assertIsNone(check_fewest(tree, least, fewest_paper(tree, least, which, name), which, name))


class BestSure(unittest.TestCase):
    def test_two_people(self):
        self.assertEqual(best_sure(TWO, 1), [("a", 5), ("b", 7)])
        self.assertEqual(best_sure(TWO, 2, "quiet"), [("b", 7), ("a", 8)])
        self.assertEqual(best_sure(TWO, 0), [("a", 5), ("b", 5)])
        self.assertEqual(best_sure(tree=TWO, many=1, which="told", name="b"), [("a", 5), ("b", 7)])
        self.assertEqual(best_sure(EMPTY, 3), [])

    def test_the_least_first_and_equal_ones_as_they_stand(self):
        tree = (9, 0, (("c", "", 1), ("b", "", 1), ("a", "", 1)))
        self.assertEqual(best_sure(tree, 3), [("c", 11), ("b", 11), ("a", 19)])
        self.assertEqual([row[0] for row in best_sure(tree, 0)], ["c", "b", "a"])
        self.assertEqual([row[0] for row in best_sure(tree, 3, "quiet")], ["c", "b", "a"])
        lost = (1, 1, (("b", "", 1), ("a", "", 1), ("c", "a", 1), ("d", "a", 1)))
        self.assertEqual(best_sure(lost, 1, "lost"), [("a", 0), ("b", 2), ("c", 2), ("d", 2)])

    def test_held_against_worst(self):
        for at, tree in enumerate(mixed_trees(6, 20, 43)):
            names = [row[0] for row in tree[2]]
            for which, name in questions(NAMES[at % 3:6:3]):
                for many in (0, 1, 3, 16):
                    rows = [(worst(tree, many, which, name, (each,)), place) for place, each in enumerate(names)]
                    right = [(names[place], most) for most, place in sorted(rows)]
                    self.assertEqual(best_sure(tree, many, which, name), right)

    def test_of_sixteen(self):
        rows = best_sure(twofold(16, 6, 2), 16, "lost")
        self.assertEqual(sorted(row[0] for row in rows), list(NAMES))
        self.assertEqual([row[1] for row in rows], sorted(row[1] for row in rows))


class Refused(unittest.TestCase):
    BAD_TREE = (1, 0, (("a", "", 1), ("a", "", 1)))

    def asks(self):
        return (
            lambda tree, least, which, name, sure: fewest(tree, least, which, name, sure),
            lambda tree, least, which, name, sure: fewest_paper(tree, least, which, name, sure),
            lambda tree, least, which, name, sure: check_fewest(tree, least, None, which, name, sure),
        )

    def test_in_their_order(self):
        for ask in self.asks():
            with self.assertRaises(BadTree) as caught:
                ask(self.BAD_TREE, -1, "none", "zoe", ("zoe",))
            self.assertEqual((caught.exception.part, caught.exception.number), ("people", 1))
            for least in NO_LEAST:
                with self.assertRaises(OutOfPlace):
                    ask(TREE, least, "told", "zoe", ("zoe",))
            for which in ("none", None, True, 0, ["last"], HUGE):
                with self.assertRaises(OutOfPlace):
                    ask(TREE, 1, which, "zoe", ("zoe",))
            for name in ("zoe", "", None, 0, HUGE, ("ann",)):
                with self.assertRaises(NoName):
                    ask(TREE, 1, "told", name, ("zoe",))
            for name in ("ann", "zoe", None, 0, ()):
                with self.assertRaises(OutOfPlace):
                    ask(TREE, 1, "lost", name, ("zoe",))
            for sure, number in ((("zoe",), 0), (["ann"], None), (("bob", "ann"), 1), (0, None)):
                with self.assertRaises(BadAway) as caught:
                    ask(TREE, 1, "last", "", sure)
                self.assertEqual(caught.exception.number, number)

    def test_the_bounds_of_least(self):
        for ask in (fewest, fewest_paper):
            for least in (0, 99999):
                ask(TREE, least)
        self.assertIsNone(check_fewest(TREE, 99999, fewest_paper(TREE, 99999)))

    def test_best_sure(self):
        with self.assertRaises(BadTree):
            best_sure(self.BAD_TREE, -1, "none", "zoe")
        for many in (-1, 17, True, None, "1", HUGE, -HUGE, (1,), AlikeToAll()):
            with self.assertRaises(OutOfPlace):
                best_sure(TREE, many, "told", "zoe")
        for which in ("none", None, True, 0, ["last"], HUGE, AlikeToAll()):
            with self.assertRaises(OutOfPlace):
                best_sure(TREE, 1, which, "zoe")
        for name in ("zoe", "", None, 0, HUGE, ("ann",), AlikeToAll()):
            with self.assertRaises(NoName):
                best_sure(TREE, 1, "told", name)
        for name in ("ann", None, 0, AlikeToAll()):
            with self.assertRaises(OutOfPlace):
                best_sure(TREE, 1, "last", name)

    def test_of_anything(self):
        for thing in OTHER_KINDS:
            for ask in (lambda: fewest(thing, 1), lambda: fewest_paper(thing, 1), lambda: best_sure(thing, 1),
                        lambda: check_fewest(thing, 1, ((), ()))):
                with self.assertRaises(BadTree):
                    ask()
            with self.assertRaises(BadPaper) as caught:
                check_fewest(TREE, 1, thing)
            self.assertIsNone(caught.exception.place)


if __name__ == "__main__":
    unittest.main()
