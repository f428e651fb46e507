"""Of anything: also of a thing that says it is the same as whatever it is held against."""

import unittest

from ringdown.errors import BadAway, BadCall, BadRow, BadTree, NoName, OutOfPlace
from ringdown.ringcheck import check_calls
from ringdown.rings import carrier_of, ring_calls, told_minute
from ringdown.standings import going_at, standing
from ringdown.tree import below, caller_of, is_away, is_tree, level_of, list_of, need_away, need_tree, talk_of
from ringdown.treetext import read_tree
from ringdown.ways import slack_of, way_of
from ringdown.words import clock_text, is_among, is_name, is_whole, minute_of, number_of, words_of
from ringdown.worst import measure_of, worst, worsts
from tests.samples import TREE, AlikeToAll

ALL = AlikeToAll()
CALLS = ring_calls(TREE)


class OfAnything(unittest.TestCase):
    def test_words(self):
        for ask in (is_name, is_whole):
            self.assertIs(ask(ALL), False)
        self.assertIs(is_among(ALL, 0, 5), False)
        for ask in (number_of, words_of, minute_of):
            self.assertIsNone(ask(ALL))
        with self.assertRaises(OutOfPlace):
            clock_text(ALL)

    def test_trees(self):
        for thing in (ALL, (ALL, 0, ()), (1, ALL, ()), (1, 0, ALL), (1, 0, (ALL,)), (1, 0, ((ALL, "", 5),)),
                      (1, 0, (("a", ALL, 5),)), (1, 0, (("a", "", 5), ("b", ALL, 5))), (1, 0, (("a", "", ALL),))):
            self.assertIs(is_tree(thing), False)
            with self.assertRaises(BadTree):
                need_tree(thing)
        with self.assertRaises(BadRow):
            read_tree(ALL)

    def test_names(self):
        for ask in (list_of, below, level_of, caller_of, talk_of, told_minute, carrier_of, way_of, slack_of):
            with self.assertRaises(NoName) as caught:
                ask(TREE, ALL)
            self.assertIs(caught.exception.name, ALL)
        with self.assertRaises(NoName):
            standing(TREE, 0, ALL)

    def test_away(self):
        for thing in (ALL, (ALL,), ("ann", ALL)):
            self.assertIs(is_away(TREE, thing), False)
            with self.assertRaises(BadAway):
                need_away(TREE, thing)
            with self.assertRaises(BadAway):
                ring_calls(TREE, thing)

    def test_minutes(self):
        with self.assertRaises(OutOfPlace):
            going_at(TREE, ALL)

    def test_calls(self):
        for number, call in enumerate(CALLS):
            for place in range(5):
                other = call[:place] + (ALL,) + call[place + 1:]
                with self.assertRaises(BadCall) as caught:
                    check_calls(TREE, CALLS[:number] + [other] + CALLS[number + 1:])
                self.assertEqual(caught.exception.number, number)
            with self.assertRaises(BadCall):
                check_calls(TREE, CALLS[:number] + [ALL] + CALLS[number + 1:])

    def test_measures(self):
        for ask in (lambda *rest: measure_of(TREE, None, *rest), lambda *rest: worst(TREE, 1, *rest),
                    lambda *rest: worsts(TREE, *rest)):
            with self.assertRaises(OutOfPlace):
                ask(ALL)
            with self.assertRaises(OutOfPlace):
                ask("last", ALL)
            with self.assertRaises(NoName):
                ask("told", ALL)
        with self.assertRaises(OutOfPlace):
            worst(TREE, ALL)


if __name__ == "__main__":
    unittest.main()
