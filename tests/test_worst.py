"""Points [20] to [22]: measures, and the worst that so many away ones can do."""

import unittest

from ringdown.errors import BadAway, BadTree, NoName, OutOfPlace
from ringdown.worst import measure_of, worst, worsts
from tests.minutes import measure_by_minutes
from tests.samples import (
    EMPTY, HUGE, NAMES, OTHER_KINDS, TREE, chain, flat, mixed_trees, small_trees, subsets, twofold, with_deep,
)

ALL = ("ann", "bob", "cid", "dan", "eve", "fay")
TWO = (5, 0, (("a", "", 3), ("b", "", 2)))
ALONE = ("last", "quiet", "lost")
NO_MEASURES = ("", "Last", "lasts", "none", None, True, 0, 7, HUGE, ["last"], ("last",), b"last", {}, {"last"})
NO_MANY = (-1, 17, True, False, None, "1", 1.0, [1], (1,), HUGE, -HUGE)


def worst_by_going_through(tree, which, name="", sure=()):
    """The WORSTs by 0, 1, .. away ones, of all who may be away gone through one by one."""
    names = [row[0] for row in tree[2]]
    found = [0] * (len(names) + 1)
    for away in subsets([each for each in names if each not in sure and each != name]):
        measure = measure_by_minutes(tree, away, which, name)
        if measure is not None:
            for many in range(len(away), len(found)):
                found[many] = max(found[many], measure)
    return tuple(found)


class Measures(unittest.TestCase):
    def test_nobody_away(self):
        self.assertEqual(measure_of(TREE), 14)
        self.assertEqual(measure_of(TREE, None, "quiet"), 14)
        self.assertEqual(measure_of(TREE, (), "lost", ""), 0)
        self.assertEqual(measure_of(TREE, which="told", name="eve"), 9)
        self.assertEqual([measure_of(EMPTY, None, which) for which in ALONE], [0, 0, 0])

    def test_some_away(self):
        self.assertEqual([measure_of(TREE, ("fay",), which) for which in ALONE], [9, 10, 0])
        self.assertEqual([measure_of(with_deep(1), ("ann",), which) for which in ALONE], [13, 13, 3])
        self.assertEqual([measure_of(TREE, ALL, which) for which in ALONE], [0, 12, 0])
        self.assertEqual(measure_of(tree=TREE, away=("ann",), which="told", name="fay"), 18)

    def test_none_of_one_who_is_not_told(self):
        self.assertIsNone(measure_of(TREE, ("ann",), "told", "ann"))
        self.assertIsNone(measure_of(with_deep(1), ("ann",), "told", "eve"))

    def test_against_a_ring_gone_through_by_minutes(self):
        for tree in small_trees(3):
            for away in subsets(NAMES[:3]):
                for which in ALONE:
                    self.assertEqual(measure_of(tree, away, which), measure_by_minutes(tree, away, which))
                for name in NAMES[:3]:
                    self.assertEqual(
                        measure_of(tree, away, "told", name), measure_by_minutes(tree, away, "told", name))


class Worst(unittest.TestCase):
    def test_two_people(self):
        self.assertEqual(worsts(TWO), (5, 7, 7))
        self.assertEqual(worsts(TWO, "quiet"), (5, 8, 10))
        self.assertEqual(worsts(TWO, "lost"), (0, 0, 0))
        self.assertEqual(worsts(TWO, "told", "a"), (3, 3, 3))
        self.assertEqual(worsts(TWO, "told", "b"), (5, 7, 7))
        self.assertEqual(worsts(TWO, "last", "", ("a",)), (5, 5, 5))
        self.assertEqual(worsts(TWO, which="quiet", sure=("a",)), (5, 8, 8))
        self.assertEqual(worsts(TWO, "quiet", "", ("a", "b")), (5, 5, 5))

    def test_lost(self):
        tree = chain(3, 1, 1)
        self.assertEqual(worsts(tree, "lost"), (0, 2, 2, 2))
        self.assertEqual(worsts(tree, "lost", "", (NAMES[0],)), (0, 1, 1, 1))
        self.assertEqual(worsts(chain(4, 1, 2), "lost"), (0, 0, 2, 2, 2))

    def test_by_its_arguments(self):
        self.assertEqual([worst(TWO, many) for many in range(3)], [5, 7, 7])
        self.assertEqual(worst(TWO, 1, "quiet"), 8)
        self.assertEqual(worst(TWO, 1, "told", "b"), 7)
        self.assertEqual(worst(TWO, 1, "last", "", None), 7)
        self.assertEqual(worst(TWO, 1, "last", "", ()), 7)
        self.assertEqual(worst(tree=TWO, many=1, which="told", name="b", sure=("a",)), 5)

    def test_more_away_ones_than_people(self):
        for many in (2, 3, 7, 16):
            self.assertEqual(worst(TWO, many, "quiet"), 10)
            self.assertEqual(worst(EMPTY, many, "last"), 0)
        for which in ALONE:
            self.assertEqual(worsts(EMPTY, which), (0,))

    def test_fewer_away_ones_may_be_worse(self):
        # All away, nobody is told: the worst stays that of one fewer.
        self.assertEqual(worsts((1, 0, (("a", "", 9),))), (9, 9))

    def test_small_trees_gone_through(self):
        for many in range(4):
            for tree in small_trees(many, 4):
                for sure in subsets(NAMES[:many]):
                    for which in ALONE:
                        self.hold(tree, which, "", sure)
                    for name in NAMES[:many]:
                        self.hold(tree, "told", name, sure)

    def test_mixed_trees_gone_through(self):
        for at, tree in enumerate(mixed_trees(6, 80, 5)):
            sure = ((), NAMES[at % 6:at % 6 + 1], NAMES[at % 3:6:3])[at % 3]
            for which in ALONE:
                self.hold(tree, which, "", sure)
            for name in NAMES[at % 2:6:2]:
                self.hold(tree, "told", name, sure)

    def test_ten_people_gone_through(self):
        for tree in (twofold(10, 3, 0), twofold(10, 6, 2), chain(10, 4, 3, 5)):
            for which in ALONE:
                self.hold(tree, which, "", ())
            self.hold(tree, "told", NAMES[9], ())

    def hold(self, tree, which, name, sure):
        right = worst_by_going_through(tree, which, name, sure)
        self.assertEqual(worsts(tree, which, name, sure), right)
        for many, number in enumerate(right):
            self.assertEqual(worst(tree, many, which, name, sure), number)
        self.assertEqual(worst(tree, 16, which, name, sure), right[-1])


class Sixteen(unittest.TestCase):
    def test_in_one_list(self):
        for deep in range(5):
            tree = flat(16, 7, deep, 3)
            self.assertEqual(worsts(tree, "quiet"), tuple(48 + 4 * many for many in range(17)))
            self.assertEqual(worsts(tree), tuple(48 + 4 * min(many, 15) for many in range(17)))
            self.assertEqual(worsts(tree, "lost"), (0,) * 17)
            self.assertEqual(worsts(tree, "told", NAMES[4]), tuple(15 + 4 * min(many, 4) for many in range(17)))
            self.assertEqual(worst(tree, 16, "quiet"), 112)

    def test_in_a_chain(self):
        tree = chain(16, 5, 0, 2)
        self.assertEqual(worsts(tree), tuple(32 + 3 * min(many, 15) for many in range(17)))
        self.assertEqual(worsts(tree, "quiet"), tuple(32 + 3 * many for many in range(17)))
        for deep in range(1, 5):
            # As many away ones one behind the other as a sheet shows rows lose all below them.
            lost = tuple(0 if many < deep else 16 - deep for many in range(17))
            self.assertEqual(worsts(chain(16, 5, deep, 2), "lost"), lost)

    def test_in_a_chain_with_sheets(self):
        # Of four one behind the other at least one must be there, for the last one to be reached.
        tree = chain(16, 5, 4, 2)
        self.assertEqual(worst(tree, 16, "told", NAMES[15]), 32 + 3 * 12)
        self.assertEqual(worst(tree, 12, "told", NAMES[15]), 32 + 3 * 12)
        self.assertEqual(worst(tree, 11, "told", NAMES[15]), 32 + 3 * 11)

    def test_in_lists_of_lists(self):
        for deep in range(5):
            tree = twofold(16, 9, deep)
            for which in ALONE:
                found = worsts(tree, which)
                self.assertEqual(len(found), 17)
                self.assertEqual(list(found), sorted(found))
                self.assertEqual(found[0], measure_of(tree, (), which))
                self.assertEqual(worst(tree, 16, which), found[16])
                singles = [measure_of(tree, (name,), which) for name in NAMES]
                self.assertEqual(found[1], max([found[0]] + singles))

    def test_all_at_once(self):
        for tree in mixed_trees(16, 30, 6):
            for many in (0, 1, 8, 16):
                for which in ALONE:
                    self.assertGreaterEqual(worst(tree, many, which), measure_of(tree, NAMES[:many], which))
                self.assertGreaterEqual(worst(tree, many, "told", NAMES[15]), measure_of(tree, (), "told", NAMES[15]))


class Refused(unittest.TestCase):
    BAD_TREE = (1, 0, (("a", "", 1), ("a", "", 1)))

    def test_bad_tree_ahead(self):
        for call in (
            lambda: measure_of(self.BAD_TREE, ("zoe",), "none", "zoe"),
            lambda: worst(self.BAD_TREE, -1, "none", "zoe", ("zoe",)),
            lambda: worsts(self.BAD_TREE, "none", "zoe", ("zoe",)),
        ):
            with self.assertRaises(BadTree) as caught:
                call()
            self.assertEqual((caught.exception.part, caught.exception.number), ("people", 1))

    def test_many(self):
        for many in NO_MANY:
            for which, name in (("last", ""), ("told", "ann"), ("told", "zoe")):
                with self.assertRaises(OutOfPlace):
                    worst(TREE, many, which, name, ("zoe",))
        for many in (0, 16):
            worst(TREE, many)

    def test_no_measure(self):
        for which in NO_MEASURES:
            for name in ("", "ann", "zoe"):
                for call in (
                    lambda: measure_of(TREE, ("zoe",), which, name),
                    lambda: worst(TREE, 1, which, name, ("zoe",)),
                    lambda: worsts(TREE, which, name, ("zoe",)),
                ):
                    with self.assertRaises(OutOfPlace):
                        call()

    def test_told_of_no_name(self):
        for name in ("", "zoe", "Ann", None, True, 7, HUGE, ["ann"], ("ann",), b"ann"):
            for call in (
                lambda: measure_of(TREE, ("zoe",), "told", name),
                lambda: worst(TREE, 1, "told", name, ("zoe",)),
                lambda: worsts(TREE, "told", name, ("zoe",)),
            ):
                with self.assertRaises(NoName) as caught:
                    call()
                self.assertEqual(caught.exception.name, name)

    def test_a_name_that_is_not_asked_for(self):
        for which in ALONE:
            for name in ("ann", "zoe", "-", None, True, 0, HUGE, [], (), b"", {}):
                for call in (
                    lambda: measure_of(TREE, ("zoe",), which, name),
                    lambda: worst(TREE, 1, which, name, ("zoe",)),
                    lambda: worsts(TREE, which, name, ("zoe",)),
                ):
                    with self.assertRaises(OutOfPlace):
                        call()

    def test_bad_away_and_bad_sure(self):
        for away, number in ((["ann"], None), (("zoe",), 0), (("bob", "ann"), 1), (("ann", "ann"), 1), (0, None)):
            for which, name in (("last", ""), ("told", "ann")):
                for call in (
                    lambda: measure_of(TREE, away, which, name),
                    lambda: worst(TREE, 1, which, name, away),
                    lambda: worsts(TREE, which, name, away),
                ):
                    with self.assertRaises(BadAway) as caught:
                        call()
                    self.assertEqual(caught.exception.number, number)

    def test_of_anything(self):
        for thing in OTHER_KINDS:
            with self.assertRaises(BadTree):
                measure_of(thing)
            with self.assertRaises(BadTree):
                worst(thing, 1)
            with self.assertRaises(BadTree):
                worsts(thing)
            with self.assertRaises(NoName):
                worst(TREE, 1, "told", thing)
            with self.assertRaises(OutOfPlace):
                worst(TREE, 1, thing)
            if isinstance(thing, bool) or thing not in (0, 7):
                with self.assertRaises(OutOfPlace):
                    worst(TREE, thing)
            if thing is not None and thing != ():
                with self.assertRaises(BadAway):
                    measure_of(TREE, thing)
                with self.assertRaises(BadAway):
                    worst(TREE, 1, "last", "", thing)
                with self.assertRaises(BadAway):
                    worsts(TREE, sure=thing)


if __name__ == "__main__":
    unittest.main()
