"""Points [10], [11] and [12]: who calls whom and when, and what comes of it."""

import unittest

from ringdown.errors import BadAway, BadTree, NoName
from ringdown.rings import carrier_of, last_of, lost_names, quiet_of, ring_calls, told_minute, told_rows
from tests.minutes import calls_by_minutes
from tests.samples import (
    EMPTY, HUGE, NAMES, OTHER_KINDS, TREE, chain, mixed_trees, small_trees, subsets, with_deep,
)

NOBODY_AWAY = [
    (0, 3, "", "ann", True),
    (3, 8, "", "bob", True),
    (3, 7, "ann", "cid", True),
    (7, 8, "ann", "dan", True),
    (7, 9, "cid", "eve", True),
    (8, 14, "bob", "fay", True),
]
ANN_AWAY = [
    (0, 2, "", "ann", False),
    (2, 6, "", "cid", True),
    (6, 7, "", "dan", True),
    (6, 8, "cid", "eve", True),
    (7, 12, "", "bob", True),
    (12, 18, "bob", "fay", True),
]
ANN_CID_AWAY = [
    (0, 2, "", "ann", False),
    (2, 4, "", "cid", False),
    (4, 6, "", "eve", True),
    (6, 7, "", "dan", True),
    (7, 12, "", "bob", True),
    (12, 18, "bob", "fay", True),
]
ALL = ("ann", "bob", "cid", "dan", "eve", "fay")
ALL_AWAY = [
    (0, 2, "", "ann", False),
    (2, 4, "", "cid", False),
    (4, 6, "", "eve", False),
    (6, 8, "", "dan", False),
    (8, 10, "", "bob", False),
    (10, 12, "", "fay", False),
]

ASKED_OF_A_RING = (ring_calls, told_rows, lost_names, last_of, quiet_of)
ASKED_OF_A_NAME = (told_minute, carrier_of)


class Calls(unittest.TestCase):
    def test_nobody_away(self):
        self.assertEqual(ring_calls(TREE), NOBODY_AWAY)
        self.assertEqual(ring_calls(TREE, None), NOBODY_AWAY)
        self.assertEqual(ring_calls(TREE, ()), NOBODY_AWAY)
        self.assertEqual(ring_calls(tree=TREE, away=None), NOBODY_AWAY)
        for deep in range(1, 5):
            self.assertEqual(ring_calls(with_deep(deep)), NOBODY_AWAY)

    def test_nobody_at_all(self):
        for deep in range(5):
            self.assertEqual(ring_calls((1, deep, ())), [])

    def test_away_ones(self):
        self.assertEqual(ring_calls(TREE, ("ann",)), ANN_AWAY)
        self.assertEqual(ring_calls(TREE, away=("ann", "cid")), ANN_CID_AWAY)
        self.assertEqual(ring_calls(TREE, ALL), ALL_AWAY)

    def test_away_at_the_end(self):
        self.assertEqual(ring_calls(TREE, ("fay",)), NOBODY_AWAY[:5] + [(8, 10, "bob", "fay", False)])

    def test_a_list_goes_ahead_of_all_else(self):
        tree = (1, 0, (("a", "", 5), ("b", "", 5), ("c", "", 5), ("d", "b", 5), ("e", "b", 5), ("f", "d", 5)))
        self.assertEqual([call[3] for call in ring_calls(tree, ("b", "d"))], ["a", "b", "d", "f", "e", "c"])

    def test_deep_one(self):
        self.assertEqual(ring_calls(with_deep(1), ("ann",)), [
            (0, 2, "", "ann", False), (2, 7, "", "bob", True), (7, 13, "bob", "fay", True),
        ])
        self.assertEqual(ring_calls(with_deep(1), ("cid",)), [
            (0, 3, "", "ann", True), (3, 8, "", "bob", True), (3, 5, "ann", "cid", False),
            (5, 6, "ann", "dan", True), (8, 14, "bob", "fay", True),
        ])

    def test_deep_two(self):
        self.assertEqual(ring_calls(with_deep(2), ("ann",)), ANN_AWAY)
        self.assertEqual(ring_calls(with_deep(2), ("ann", "cid")), [
            (0, 2, "", "ann", False), (2, 4, "", "cid", False), (4, 5, "", "dan", True),
            (5, 10, "", "bob", True), (10, 16, "bob", "fay", True),
        ])
        self.assertEqual(ring_calls(with_deep(2), ("cid",)), [
            (0, 3, "", "ann", True), (3, 8, "", "bob", True), (3, 5, "ann", "cid", False),
            (5, 7, "ann", "eve", True), (7, 8, "ann", "dan", True), (8, 14, "bob", "fay", True),
        ])

    def test_deep_three_and_four(self):
        for deep in (3, 4):
            self.assertEqual(ring_calls(with_deep(deep), ("ann", "cid")), ANN_CID_AWAY)

    def test_how_deep_a_sheet_goes(self):
        for deep in range(5):
            tree = chain(16, 2, deep)
            self.assertEqual(len(ring_calls(tree, NAMES)), deep if deep else 16)
            # The one at level 3 is there, and counts from there.
            away = NAMES[:2] + NAMES[3:]
            reached = {0: 16, 1: 1, 2: 2, 3: 6, 4: 7}[deep]
            self.assertEqual(len(ring_calls(tree, away)), reached)

    def test_ones_of_one_start_by_callers(self):
        tree = (1, 0, (("z", "", 2), ("b", "", 2), ("y", "z", 1), ("a", "z", 1), ("c", "a", 1), ("d", "b", 1)))
        self.assertEqual(ring_calls(tree), [
            (0, 2, "", "z", True), (2, 4, "", "b", True), (2, 3, "z", "y", True), (3, 4, "z", "a", True),
            (4, 5, "a", "c", True), (4, 5, "b", "d", True),
        ])

    def test_against_a_ring_gone_through_by_minutes(self):
        for many in range(5):
            for tree in small_trees(many):
                for away in subsets(NAMES[:many]):
                    self.assertEqual(ring_calls(tree, away), calls_by_minutes(tree, away))

    def test_great_ones_against_a_ring_gone_through_by_minutes(self):
        for at, tree in enumerate(mixed_trees(16, 100, 3)):
            for away in ((), NAMES[::2], NAMES[at % 7::3], NAMES[:at % 16], NAMES):
                self.assertEqual(ring_calls(tree, away), calls_by_minutes(tree, away))


class Told(unittest.TestCase):
    def test_told_rows(self):
        self.assertEqual(told_rows(TREE), [
            (3, "ann"), (7, "cid"), (8, "bob"), (8, "dan"), (9, "eve"), (14, "fay"),
        ])
        self.assertEqual(told_rows(TREE, ("ann", "cid")), [(6, "eve"), (7, "dan"), (12, "bob"), (18, "fay")])
        self.assertEqual(told_rows(TREE, ALL), [])
        self.assertEqual(told_rows(EMPTY), [])

    def test_lost(self):
        self.assertEqual(lost_names(TREE), [])
        self.assertEqual(lost_names(TREE, ("ann",)), [])
        self.assertEqual(lost_names(with_deep(1), ("ann",)), ["cid", "dan", "eve"])
        self.assertEqual(lost_names(with_deep(1), away=("ann", "cid")), ["dan", "eve"])
        self.assertEqual(lost_names(with_deep(2), ("ann", "cid")), ["eve"])
        self.assertEqual(lost_names(with_deep(1), ("bob", "cid")), ["eve", "fay"])
        self.assertEqual(lost_names(with_deep(1), ALL), [])
        self.assertEqual(lost_names((1, 1, (("z", "", 1), ("y", "z", 1), ("x", "z", 1))), ("z",)), ["x", "y"])

    def test_last_and_quiet(self):
        self.assertEqual((last_of(TREE), quiet_of(TREE)), (14, 14))
        self.assertEqual((last_of(TREE, ("fay",)), quiet_of(TREE, ("fay",))), (9, 10))
        self.assertEqual((last_of(TREE, ALL), quiet_of(TREE, ALL)), (0, 12))
        self.assertEqual((last_of(EMPTY), quiet_of(EMPTY)), (0, 0))
        self.assertEqual((last_of(with_deep(1), away=("ann",)), quiet_of(with_deep(1), away=("ann",))), (13, 13))

    def test_told_minute(self):
        self.assertEqual([told_minute(TREE, name) for name in ALL], [3, 8, 7, 8, 9, 14])
        self.assertEqual([told_minute(TREE, name, ("ann",)) for name in ALL], [None, 12, 6, 7, 8, 18])
        self.assertEqual([told_minute(with_deep(1), name, ("ann",)) for name in ALL], [None, 7, None, None, None, 13])
        self.assertIsNone(told_minute(TREE, name="fay", away=ALL))

    def test_carrier(self):
        self.assertEqual([carrier_of(TREE, name) for name in ALL], ["", "", "ann", "ann", "cid", "bob"])
        self.assertEqual([carrier_of(TREE, name, ("ann", "cid")) for name in ALL], ["", "", "", "", "", "bob"])
        self.assertEqual([carrier_of(TREE, name, ("cid",)) for name in ALL], ["", "", "ann", "ann", "ann", "bob"])
        self.assertEqual(
            [carrier_of(with_deep(1), name, away=("ann", "cid")) for name in ALL], ["", "", None, None, None, "bob"])

    def test_all_by_the_calls(self):
        for tree in small_trees(4):
            for away in subsets(NAMES[:4]):
                calls = calls_by_minutes(tree, away)
                told = {call[3]: call[1] for call in calls if call[4]}
                carriers = {call[3]: call[2] for call in calls}
                self.assertEqual(told_rows(tree, away), sorted((end, name) for name, end in told.items()))
                self.assertEqual(lost_names(tree, away), sorted(set(NAMES[:4]) - set(carriers) - set(away)))
                self.assertEqual(last_of(tree, away), max(told.values(), default=0))
                self.assertEqual(quiet_of(tree, away), max((call[1] for call in calls), default=0))
                for name in NAMES[:4]:
                    self.assertEqual(told_minute(tree, name, away), told.get(name))
                    self.assertEqual(carrier_of(tree, name, away), carriers.get(name))


class Refused(unittest.TestCase):
    BAD_TREE = (1, 5, ())

    def test_bad_tree_ahead(self):
        for ask in ASKED_OF_A_RING:
            for away in (None, (), ("zoe",), []):
                with self.assertRaises(BadTree) as caught:
                    ask(self.BAD_TREE, away)
                self.assertEqual((caught.exception.part, caught.exception.number), ("deep", None))
        for ask in ASKED_OF_A_NAME:
            for away in (None, (), ("zoe",), []):
                with self.assertRaises(BadTree):
                    ask(self.BAD_TREE, "zoe", away)

    def test_bad_away_next(self):
        for away, number in ((["ann"], None), (("zoe",), 0), (("bob", "ann"), 1), (("ann", True), 1), (0, None)):
            for ask in ASKED_OF_A_RING:
                with self.assertRaises(BadAway) as caught:
                    ask(TREE, away)
                self.assertEqual(caught.exception.number, number)
            for ask in ASKED_OF_A_NAME:
                for name in ("ann", "zoe", "", None):
                    with self.assertRaises(BadAway) as caught:
                        ask(TREE, name, away)
                    self.assertEqual(caught.exception.number, number)

    def test_no_name(self):
        for ask in ASKED_OF_A_NAME:
            for name in ("", "zoe", "Ann", None, True, 7, HUGE, ["ann"], ("ann",), b"ann", {}):
                for away in (None, ("ann",)):
                    with self.assertRaises(NoName) as caught:
                        ask(TREE, name, away)
                    self.assertEqual(caught.exception.name, name)

    def test_of_anything(self):
        for thing in OTHER_KINDS:
            for ask in ASKED_OF_A_RING:
                with self.assertRaises(BadTree):
                    ask(thing)
                if thing is not None and thing != ():
                    with self.assertRaises(BadAway):
                        ask(TREE, thing)
            for ask in ASKED_OF_A_NAME:
                with self.assertRaises(BadTree):
                    ask(thing, "ann")
                with self.assertRaises(NoName):
                    ask(TREE, thing)


if __name__ == "__main__":
    unittest.main()
