"""Point [34]: places for one name more, and their worth."""

import unittest

from ringdown.errors import BadTree, OutOfPlace, TooGreat
from ringdown.places import best_places, places
from tests.minutes import listed, measure_by_minutes
from tests.samples import EMPTY, HUGE, NAMES, OTHER_KINDS, TREE, AlikeToAll, chain, flat, mixed_trees, small_trees
from tests.samples import subsets, twofold

ONE = (4, 0, (("a", "", 3),))
NEW = "newone"


def walk(tree, name=""):
    rows = []
    for each in listed(tree[2], name):
        rows += [each] + walk(tree, each)
    return rows


def tree_with(tree, caller, number, talk):
    """Put together by lists, in an order in which each caller stands ahead."""
    lists = {name: listed(tree[2], name) for name in [""] + walk(tree)}
    lists[caller] = lists[caller][:number] + [NEW] + lists[caller][number:]
    lists[NEW] = []
    talks = {row[0]: row[2] for row in tree[2]}
    talks[NEW] = talk
    people, waiting = [], [""]
    while waiting:
        each = waiting.pop(0)
        people += [(name, each, talks[name]) for name in lists[each]]
        waiting += lists[each]
    return (tree[0], tree[1], tuple(people))


def worth_by_going_through(tree, caller, number, talk, many):
    added = tree_with(tree, caller, number, talk)
    found = [measure_by_minutes(added, away, "last")
             for away in subsets(row[0] for row in added[2]) if len(away) <= many]
    return max(found)


def places_by_going_through(tree, talk, many):
    return [(caller, number, worth_by_going_through(tree, caller, number, talk, many))
            for caller in [""] + walk(tree) for number in range(len(listed(tree[2], caller)) + 1)]


class Places(unittest.TestCase):
    def test_one_person(self):
        self.assertEqual(places(ONE, 2), [("", 0, 5), ("", 1, 5), ("a", 0, 5)])
        self.assertEqual(places(ONE, 2, 0), places(ONE, 2))
        # By one away: ahead of a it is the new one, behind a it is a.
        self.assertEqual(places(ONE, 2, 1), [("", 0, 7), ("", 1, 6), ("a", 0, 6)])
        self.assertEqual(places(tree=ONE, talk=2, many=1), places(ONE, 2, 1))

    def test_no_people(self):
        for many in (0, 1, 16):
            self.assertEqual(places(EMPTY, 7, many), [("", 0, 7)])
            self.assertEqual(best_places(EMPTY, 7, many), [("", 0, 7)])

    def test_order(self):
        rows = places((2, 0, (("b", "", 5), ("a", "", 3), ("d", "b", 1), ("c", "a", 9))), 1)
        self.assertEqual([row[:2] for row in rows], [
            ("", 0), ("", 1), ("", 2), ("b", 0), ("b", 1), ("d", 0), ("a", 0), ("a", 1), ("c", 0)])

    def test_kinds(self):
        for rows in (places(TREE, 2, 1), best_places(TREE, 2, 1)):
            self.assertIs(type(rows), list)
            for row in rows:
                self.assertEqual([type(each) for each in row], [str, int, int])

    def test_what_is_told_is_the_askers_own(self):
        for ask in (places, best_places):
            rows = ask(TREE, 2)
            kept = list(rows)
            rows.clear()
            self.assertEqual(ask(TREE, 2), kept)

    def test_held_against_going_through(self):
        for tree in list(small_trees(3, 4))[::2] + list(mixed_trees(5, 8, 71)):
            for talk, many in ((1, 0), (4, 1), (2, 2), (9, 16)):
                rows = places_by_going_through(tree, talk, many)
                self.assertEqual(places(tree, talk, many), rows)
                least = min(row[2] for row in rows)
                self.assertEqual(best_places(tree, talk, many), [row for row in rows if row[2] == least])

    def test_whatever_names_the_people_have(self):
        right = [row[1:] for row in places(flat(15, 3), 2, 1)]
        letters = "abcdefghijklmno"
        for names in (letters, letters[::-1], "lmnopqrstuvwxyz", "zyxwvutsrqponml"):
            tree = (3, 0, tuple((name, "", 3) for name in names))
            self.assertEqual([row[1:] for row in places(tree, 2, 1)], right)
        eight = tuple((letter * 8, "", 3) for letter in letters)
        self.assertEqual([row[1:] for row in places((3, 0, eight), 2, 1)], right)

    def test_best_places(self):
        self.assertEqual(best_places(ONE, 2), [("", 0, 5), ("", 1, 5), ("a", 0, 5)])
        self.assertEqual(best_places(ONE, 2, 1), [("", 1, 6), ("a", 0, 6)])
        self.assertEqual(best_places(tree=ONE, talk=2, many=1), [("", 1, 6), ("a", 0, 6)])
        tree = (2, 0, (("a", "", 9), ("b", "", 1)))
        self.assertEqual(best_places(tree, 1), [("a", 0, 10)])

    def test_fifteen_people(self):
        for tree in (chain(15, 5, 0), flat(15, 7, 2), twofold(15, 6, 4)):
            for many in (0, 16):
                rows = places(tree, 60, many)
                self.assertEqual(len(rows), 15 + 16)
                self.assertEqual(len({row[:2] for row in rows}), 31)
                self.assertEqual(best_places(tree, 60, many), [row for row in rows if row[2] == min(r[2] for r in rows)])


class Refused(unittest.TestCase):
    def test_in_their_order(self):
        bad_tree = (1, 0, (("a", "", 1), ("a", "", 1)))
        sixteen = chain(16)
        for ask in (places, best_places):
            with self.assertRaises(BadTree) as caught:
                ask(bad_tree, 0, -1)
            self.assertEqual((caught.exception.part, caught.exception.number), ("people", 1))
            for tree in (TREE, sixteen):
                for talk in (0, 61, -1, True, None, "1", HUGE, (1,), AlikeToAll()):
                    with self.assertRaises(OutOfPlace):
                        ask(tree, talk, 1)
                for many in (-1, 17, True, None, "1", HUGE, -HUGE, (1,), AlikeToAll()):
                    with self.assertRaises(OutOfPlace):
                        ask(tree, 1, many)
            for talk, many in ((1, 0), (60, 16)):
                with self.assertRaises(TooGreat):
                    ask(sixteen, talk, many)
                self.assertTrue(ask(ONE, talk, many))
            with self.assertRaises(TooGreat):
                ask(flat(16), 5)

    def test_of_anything(self):
        for thing in OTHER_KINDS:
            for ask in (places, best_places):
                with self.assertRaises(BadTree):
                    ask(thing, 1)
                if isinstance(thing, bool) or thing != 7:
                    with self.assertRaises(OutOfPlace):
                        ask(TREE, thing)


if __name__ == "__main__":
    unittest.main()
