"""Points [13] and [14]: by which calls one is told, and how much longer a call may take."""

import unittest

from ringdown.errors import BadAway, BadTree, NoName
from ringdown.rings import last_of, lost_names, ring_calls, told_minute
from ringdown.ways import slack_of, way_of
from tests.samples import HUGE, NAMES, OTHER_KINDS, TREE, chain, flat, small_trees, subsets, with_deep

ALL = ("ann", "bob", "cid", "dan", "eve", "fay")


def talking_longer(tree, name, more):
    people = tuple((each, caller, talk + more if each == name else talk) for each, caller, talk in tree[2])
    return (tree[0], tree[1], people)


class Ways(unittest.TestCase):
    def test_nobody_away(self):
        ann, bob = (0, 3, "", "ann", True), (3, 8, "", "bob", True)
        cid, dan = (3, 7, "ann", "cid", True), (7, 8, "ann", "dan", True)
        self.assertEqual(way_of(TREE, "ann"), [ann])
        self.assertEqual(way_of(TREE, "bob"), [ann, bob])
        self.assertEqual(way_of(TREE, "cid", None), [ann, cid])
        self.assertEqual(way_of(TREE, "dan", ()), [ann, cid, dan])
        self.assertEqual(way_of(TREE, name="eve"), [ann, cid, (7, 9, "cid", "eve", True)])
        self.assertEqual(way_of(TREE, "fay"), [ann, bob, (8, 14, "bob", "fay", True)])

    def test_calls_that_nobody_answers_stand_in_it(self):
        self.assertEqual(way_of(TREE, "dan", ("ann", "cid")), [
            (0, 2, "", "ann", False), (2, 4, "", "cid", False), (4, 6, "", "eve", True), (6, 7, "", "dan", True),
        ])
        self.assertEqual(way_of(TREE, "eve", away=("cid",)), [
            (0, 3, "", "ann", True), (3, 5, "ann", "cid", False), (5, 7, "ann", "eve", True),
        ])

    def test_none_of_one_away_or_lost(self):
        for name in ALL:
            self.assertIsNone(way_of(TREE, name, ALL))
            self.assertIsNone(slack_of(TREE, name, ALL))
        self.assertIsNone(way_of(TREE, "ann", ("ann",)))
        self.assertIsNone(way_of(with_deep(1), "cid", ("ann",)))
        self.assertIsNone(way_of(with_deep(1), "eve", ("ann",)))
        self.assertIsNone(slack_of(with_deep(1), "eve", ("ann",)))

    def test_long_ones(self):
        self.assertEqual(way_of(flat(16), NAMES[15]), ring_calls(flat(16)))
        self.assertEqual(way_of(chain(16), NAMES[15]), ring_calls(chain(16)))

    def test_from_nought_on_each_beginning_when_the_one_ahead_ends(self):
        for tree in small_trees(4):
            for away in subsets(NAMES[:4]):
                calls = ring_calls(tree, away)
                gone = set(away) | set(lost_names(tree, away))
                for name in NAMES[:4]:
                    way = way_of(tree, name, away)
                    if name in gone:
                        self.assertIsNone(way)
                        continue
                    self.assertEqual(way[0][0], 0)
                    self.assertEqual(way[-1], [call for call in calls if call[3] == name][0])
                    for one, other in zip(way, way[1:]):
                        self.assertIn(one, calls)
                        self.assertEqual(one[1], other[0])
                        self.assertTrue(one[2] == other[2] or (one[3] == other[2] and one[4]))


class Slack(unittest.TestCase):
    def test_nobody_away(self):
        self.assertEqual([slack_of(TREE, name) for name in ALL], [0, 0, 5, 6, 5, 0])

    def test_some_away(self):
        self.assertEqual([slack_of(TREE, name, ("ann",)) for name in ALL], [None, 0, 0, 0, 10, 0])
        self.assertEqual([slack_of(TREE, name=name, away=("fay",)) for name in ALL], [0, 1, 0, 1, 0, None])
        self.assertEqual(slack_of((1, 0, (("a", "", 9),)), "a"), 0)

    def test_so_much_longer_and_no_more(self):
        for tree in small_trees(4):
            for away in subsets(NAMES[:4]):
                for name in NAMES[:4]:
                    if told_minute(tree, name, away) is None:
                        self.assertIsNone(slack_of(tree, name, away))
                        continue
                    slack = slack_of(tree, name, away)
                    last = last_of(tree, away)
                    self.assertEqual(last_of(talking_longer(tree, name, slack), away), last)
                    self.assertEqual(last_of(talking_longer(tree, name, slack + 1), away), last + 1)


class Refused(unittest.TestCase):
    def test_order(self):
        for ask in (way_of, slack_of):
            for away in (None, ("zoe",), []):
                with self.assertRaises(BadTree):
                    ask((0, 0, ()), "zoe", away)
            for away, number in ((["ann"], None), (("zoe",), 0), (("bob", "ann"), 1)):
                for name in ("ann", "zoe", ""):
                    with self.assertRaises(BadAway) as caught:
                        ask(TREE, name, away)
                    self.assertEqual(caught.exception.number, number)
            for name in ("", "zoe", "Ann", None, True, 7, HUGE, ["ann"], ("ann",), b"ann"):
                with self.assertRaises(NoName) as caught:
                    ask(TREE, name, ALL)
                self.assertEqual(caught.exception.name, name)

    def test_of_anything(self):
        for thing in OTHER_KINDS:
            for ask in (way_of, slack_of):
                with self.assertRaises(BadTree):
                    ask(thing, "ann")
                with self.assertRaises(NoName):
                    ask(TREE, thing)
                if thing is not None and thing != ():
                    with self.assertRaises(BadAway):
                        ask(TREE, "ann", thing)


if __name__ == "__main__":
    unittest.main()
