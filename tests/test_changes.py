"""Points [60] and [61]: TREEs changed, and in which order a change is refused."""

import unittest
from random import Random

from ringdown.changes import joined, left, moved, redeeped, retalked, rewaited
from ringdown.errors import BadTree, NoName, OutOfPlace, TooGreat, Twice
from ringdown.tree import below, caller_of, in_walk, is_tree, list_of, names_of, talk_of
from tests.samples import EMPTY, HUGE, NAMES, OTHER_KINDS, PEOPLE, TREE, AlikeToAll, Thing, chain, flat, mixed_trees
from tests.samples import twofold, with_deep

ALL = AlikeToAll()
# By WALK order: ann cid eve dan bob fay.
WALKED = (("ann", "", 3), ("cid", "ann", 4), ("eve", "cid", 2), ("dan", "ann", 1), ("bob", "", 5), ("fay", "bob", 6))
BAD_TREE = (1, 0, (("a", "", 1), ("a", "", 1)))
NO_NAMES = (None, True, 0, "", "-", "Ann", "a b", "ninechars", ["ann"], ("ann",), b"ann", HUGE, Thing(), ALL, {})
NO_PLACES = (-1, True, False, "0", 0.0, (0,), [], HUGE, -HUGE, ALL, Thing())


class Lists:
    """A tree as lists, changed by hand."""

    def __init__(self, tree):
        self.wait, self.deep, people = tree
        self.talks = {name: talk for name, _, talk in people}
        self.lists = {name: [row[0] for row in people if row[1] == name] for name in [""] + list(self.talks)}

    def over(self, name):
        return [each for each, names in self.lists.items() if name in names][0]

    def put(self, name, caller, place):
        names = self.lists[caller]
        names.insert(len(names) if place is None else place, name)

    def people(self, caller=""):
        found = ()
        for name in self.lists[caller]:
            found += ((name, caller, self.talks[name]),) + self.people(name)
        return found

    def tree(self):
        return (self.wait, self.deep, self.people())


class Joined(unittest.TestCase):
    def test_by_hand(self):
        self.assertEqual(joined(EMPTY, "ann", "", 3), (1, 0, (("ann", "", 3),)))
        new = ("new", "ann", 60)
        self.assertEqual(joined(TREE, "new", "ann", 60), (2, 0, WALKED[:4] + (new,) + WALKED[4:]))
        self.assertEqual(joined(TREE, "new", "ann", 60, None), joined(TREE, "new", "ann", 60, 2))
        self.assertEqual(joined(TREE, "new", "ann", 60, 0), (2, 0, WALKED[:1] + (new,) + WALKED[1:]))
        self.assertEqual(joined(TREE, "new", "ann", 60, 1), (2, 0, WALKED[:3] + (new,) + WALKED[3:]))
        self.assertEqual(joined(TREE, "new", "", 1, 1), (2, 0, WALKED[:4] + (("new", "", 1),) + WALKED[4:]))
        self.assertEqual(joined(TREE, "new", "eve", 1), (2, 0, WALKED[:3] + (("new", "eve", 1),) + WALKED[3:]))

    def test_by_names_of_arguments(self):
        told = joined(tree=TREE, name="new", caller="bob", talk=9, place=0)
        self.assertEqual(told, joined(TREE, "new", "bob", 9, 0))
        self.assertEqual(joined(tree=TREE, name="new", caller="bob", talk=9), joined(TREE, "new", "bob", 9, 1))

    def test_each_place(self):
        for tree in (TREE, with_deep(3), EMPTY) + tuple(mixed_trees(6, 20, 301)):
            for caller in ("",) + names_of(tree):
                many = len(list_of(tree, caller))
                for place in list(range(many + 1)) + [None]:
                    lists = Lists(tree)
                    lists.talks["new"], lists.lists["new"] = 7, []
                    lists.put("new", caller, place)
                    told = joined(tree, "new", caller, 7, place)
                    self.assertEqual(told, lists.tree())
                    self.assertIs(is_tree(told), True)
                with self.assertRaises(OutOfPlace):
                    joined(tree, "new", caller, 7, many + 1)

    def test_refused_in_their_order(self):
        full = flat(16)
        for name in NO_NAMES:
            with self.assertRaises(OutOfPlace):
                joined(full, name, "zoe", 0, -1)
        for name in NAMES:
            with self.assertRaises(Twice):
                joined(full, name, "zoe", 0, -1)
        for caller in NO_NAMES + ("zoe", "new"):
            if caller != "" or caller is ALL:
                with self.assertRaises(NoName) as caught:
                    joined(full, "new", caller, 0, -1)
                self.assertIs(caught.exception.name, caller)
        for talk in (0, 61, -1, True, None, "1", HUGE, (1,), ALL):
            with self.assertRaises(OutOfPlace):
                joined(full, "new", "", talk, 3)
        for place in NO_PLACES + (17,):
            with self.assertRaises(OutOfPlace):
                joined(full, "new", "", 60, place)
        for place in (None, 0, 16):
            with self.assertRaises(TooGreat):
                joined(full, "new", "", 60, place)
        self.assertEqual(len(names_of(joined(flat(15), NAMES[15], "", 60, 15))), 16)


class Left(unittest.TestCase):
    def test_by_hand(self):
        self.assertEqual(left((1, 0, (("a", "", 3),)), "a"), (1, 0, ()))
        gone = (("cid", "", 4), ("eve", "cid", 2), ("dan", "", 1), ("bob", "", 5), ("fay", "bob", 6))
        self.assertEqual(left(TREE, "ann"), (2, 0, gone))
        self.assertEqual(left(tree=TREE, name="bob"), (2, 0, WALKED[:4] + (("fay", "", 6),)))
        self.assertEqual(left(TREE, "cid"), (2, 0, WALKED[:1] + (("eve", "ann", 2),) + WALKED[3:]))
        self.assertEqual(left(TREE, "fay"), (2, 0, WALKED[:5]))

    def test_by_lists(self):
        for tree in mixed_trees(7, 40, 302):
            for name in names_of(tree):
                lists = Lists(tree)
                over = lists.over(name)
                at = lists.lists[over].index(name)
                lists.lists[over][at:at + 1] = lists.lists[name]
                self.assertEqual(left(tree, name), lists.tree())


class Moved(unittest.TestCase):
    def test_by_hand(self):
        self.assertEqual(moved(TREE, "cid", ""), (2, 0, WALKED[:1] + (("dan", "ann", 1),) + WALKED[4:] + (
            ("cid", "", 4), ("eve", "cid", 2))))
        self.assertEqual(moved(TREE, "cid", "ann"), (2, 0, WALKED[:1] + WALKED[3:4] + WALKED[1:3] + WALKED[4:]))
        # Counted without the one who moves: it stands as it stood.
        self.assertEqual(moved(TREE, "cid", "ann", 0), (2, 0, WALKED))
        self.assertEqual(moved(TREE, "dan", "ann", 1), (2, 0, WALKED))
        with self.assertRaises(OutOfPlace):
            moved(TREE, "dan", "ann", 2)
        self.assertEqual(moved(tree=TREE, name="dan", caller="bob", place=0), moved(TREE, "dan", "bob", 0))

    def test_each_place(self):
        for tree in tuple(mixed_trees(6, 25, 303)) + (chain(5), flat(5)):
            for name in names_of(tree):
                for caller in ("",) + names_of(tree):
                    self.hold(tree, name, caller)

    def hold(self, tree, name, caller):
        if caller == name or caller in below(tree, name):
            for place in (None, 0, 99, "0"):
                with self.assertRaises(OutOfPlace):
                    moved(tree, name, caller, place)
            return
        many = len([each for each in list_of(tree, caller) if each != name])
        for place in list(range(many + 1)) + [None]:
            lists = Lists(tree)
            lists.lists[lists.over(name)].remove(name)
            lists.put(name, caller, place)
            self.assertEqual(moved(tree, name, caller, place), lists.tree())
        for place in (-1, many + 1):
            with self.assertRaises(OutOfPlace):
                moved(tree, name, caller, place)

    def test_refused_in_their_order(self):
        for name in NO_NAMES + ("zoe",):
            with self.assertRaises(NoName) as caught:
                moved(TREE, name, "zed", -1)
            self.assertIs(caught.exception.name, name)
        for caller in NO_NAMES + ("zoe",):
            if caller != "" or caller is ALL:
                with self.assertRaises(NoName) as caught:
                    moved(TREE, "ann", caller, -1)
                self.assertIs(caught.exception.name, caller)
        for place in NO_PLACES + (3,):
            for caller in ("ann", "eve", "bob"):
                with self.assertRaises(OutOfPlace):
                    moved(TREE, "ann", caller, place)


class Numbers(unittest.TestCase):
    def test_talk(self):
        for name in names_of(TREE):
            for talk in (1, 7, 60):
                told = retalked(TREE, name, talk)
                self.assertEqual(told, (2, 0, tuple((row[:2] + (talk,)) if row[0] == name else row for row in WALKED)))
            for talk in (0, 61, True, None, "1", HUGE, -HUGE, (1,), ALL):
                with self.assertRaises(OutOfPlace):
                    retalked(TREE, name, talk)
        self.assertEqual(retalked(tree=TREE, name="ann", talk=9), retalked(TREE, "ann", 9))
        for name in NO_NAMES + ("zoe",):
            with self.assertRaises(NoName) as caught:
                retalked(TREE, name, 0)
            self.assertIs(caught.exception.name, name)

    def test_wait(self):
        for wait in (1, 2, 60):
            self.assertEqual(rewaited(TREE, wait), (wait, 0, WALKED))
        self.assertEqual(rewaited(tree=EMPTY, wait=9), (9, 0, ()))
        for wait in (0, 61, True, None, "1", HUGE, -HUGE, (1,), ALL):
            with self.assertRaises(OutOfPlace):
                rewaited(TREE, wait)

    def test_deep(self):
        for deep in range(5):
            self.assertEqual(redeeped(TREE, deep), (2, deep, WALKED))
        self.assertEqual(redeeped(tree=EMPTY, deep=4), (1, 4, ()))
        for deep in (-1, 5, True, False, None, "1", HUGE, -HUGE, (1,), ALL):
            with self.assertRaises(OutOfPlace):
                redeeped(TREE, deep)


class AllOfThem(unittest.TestCase):
    ASKS = (lambda tree: joined(tree, None, None, None, None), lambda tree: left(tree, None),
            lambda tree: moved(tree, None, None, None), lambda tree: retalked(tree, None, None),
            lambda tree: rewaited(tree, None), lambda tree: redeeped(tree, None))

    def test_no_trees(self):
        for ask in self.ASKS:
            for thing in OTHER_KINDS + (ALL,):
                with self.assertRaises(BadTree):
                    ask(thing)
            with self.assertRaises(BadTree) as caught:
                ask(BAD_TREE)
            self.assertEqual((caught.exception.part, caught.exception.number), ("people", 1))

    def test_what_is_handed_in_stays(self):
        self.assertEqual(TREE[2], PEOPLE)
        for change in (lambda: joined(TREE, "new", "ann", 2, 0), lambda: left(TREE, "ann"),
                       lambda: moved(TREE, "cid", "bob"), lambda: retalked(TREE, "cid", 9), lambda: rewaited(TREE, 9)):
            self.assertNotEqual(change(), TREE)
            self.assertEqual((TREE[0], TREE[1], TREE[2]), (2, 0, PEOPLE))

    def test_there_and_back(self):
        dice = Random(304)
        for tree in mixed_trees(8, 30, 305):
            walked = in_walk(tree)
            name = dice.choice(names_of(tree))
            place = list_of(tree, caller_of(tree, name)).index(name)
            for caller in ("",) + names_of(tree):
                if caller != name and caller not in below(tree, name):
                    self.assertEqual(moved(moved(tree, name, caller, 0), name, caller_of(tree, name), place), walked)
            self.assertEqual(left(joined(tree, "new", name, 3, 0), "new"), walked)
            self.assertEqual(retalked(retalked(tree, name, 50), name, talk_of(tree, name)), walked)

    def test_sixteen(self):
        for tree in (chain(16), flat(16), twofold(16)):
            self.assertEqual(len(names_of(left(tree, NAMES[0]))), 15)
            self.assertEqual(joined(left(tree, NAMES[15]), NAMES[15], caller_of(tree, NAMES[15]), talk_of(tree, NAMES[15])),
                             in_walk(tree))
            self.assertEqual(names_of(moved(tree, NAMES[15], "", 0))[0], NAMES[15])


if __name__ == "__main__":
    unittest.main()
