"""Point [15]: how the names stand at a minute."""

import unittest

from ringdown.errors import BadAway, BadTree, NoName, OutOfPlace
from ringdown.rings import ring_calls
from ringdown.standings import going_at, standing, standings
from tests.samples import EMPTY, HUGE, OTHER_KINDS, TREE, small_trees, subsets, with_deep

ALL = ("ann", "bob", "cid", "dan", "eve", "fay")
WALK = ("ann", "cid", "eve", "dan", "bob", "fay")
NO_MINUTES = (-1, 6000, True, False, None, HUGE, -HUGE, "0", "0:00", 0.0, [0], (0,), b"0")


def words(text):
    """(NAME, word) by the words of a text, one for each name in WALK order."""
    return list(zip(WALK, text.split(", ")))


class Standings(unittest.TestCase):
    def test_nobody_away(self):
        for minute, text in (
            (0, "called, waiting, waiting, waiting, in line, waiting"),
            (2, "called, waiting, waiting, waiting, in line, waiting"),
            (3, "told, called, waiting, in line, called, waiting"),
            (6, "told, called, waiting, in line, called, waiting"),
            (7, "told, told, called, called, called, waiting"),
            (8, "told, told, called, told, told, called"),
            (9, "told, told, told, told, told, called"),
            (13, "told, told, told, told, told, called"),
            (14, "told, told, told, told, told, told"),
            (5999, "told, told, told, told, told, told"),
        ):
            self.assertEqual(standings(TREE, minute), words(text), minute)

    def test_some_away(self):
        for minute, text in (
            (0, "called, waiting, waiting, waiting, in line, waiting"),
            (1, "called, waiting, waiting, waiting, in line, waiting"),
            (2, "missed, called, waiting, in line, in line, waiting"),
            (5, "missed, called, waiting, in line, in line, waiting"),
            (6, "missed, told, called, called, in line, waiting"),
            (7, "missed, told, called, told, called, waiting"),
            (12, "missed, told, told, told, told, called"),
            (18, "missed, told, told, told, told, told"),
        ):
            self.assertEqual(standings(TREE, minute, ("ann",)), words(text), minute)

    def test_whom_nobody_calls_always_waits(self):
        for minute in (0, 2, 7, 13, 5999):
            rows = dict(standings(with_deep(1), minute, away=("ann", "cid")))
            self.assertEqual([rows[name] for name in ("cid", "dan", "eve")], ["waiting"] * 3)

    def test_an_away_one_in_the_list_of_an_away_one(self):
        away = ("ann", "cid")
        self.assertEqual([standing(TREE, minute, "eve", away) for minute in (0, 3, 4, 5, 6)],
                         ["waiting", "waiting", "called", "called", "told"])
        self.assertEqual([standing(TREE, minute, "dan", away) for minute in (0, 1, 2, 5, 6, 7)],
                         ["waiting", "waiting", "in line", "in line", "called", "told"])

    def test_one_by_one(self):
        self.assertEqual(standing(TREE, 0, "ann"), "called")
        self.assertEqual(standing(TREE, 0, "bob", None), "in line")
        self.assertEqual(standing(TREE, 2, "ann", ("ann",)), "missed")
        self.assertEqual(standing(tree=TREE, minute=7, name="fay", away=()), "waiting")
        self.assertEqual(standing(TREE, 5999, "fay", ALL), "missed")

    def test_nobody_at_all(self):
        self.assertEqual(standings(EMPTY, 0), [])
        self.assertEqual(going_at(EMPTY, 0), [])

    def test_all_the_minutes(self):
        for tree in list(small_trees(3)) + [with_deep(2), TREE]:
            names = [row[0] for row in tree[2]]
            for away in subsets(names):
                self.hold_against_calls(tree, away)

    def hold_against_calls(self, tree, away):
        calls = {call[3]: call for call in ring_calls(tree, away)}
        callers = {name: caller for name, caller, _ in tree[2]}
        ends = {name: call[1] for name, call in calls.items()}
        ends[""] = 0
        for minute in range(max(ends.values()) + 2):
            rows = dict(standings(tree, minute, away))
            self.assertEqual(len(rows), len(tree[2]))
            for name, caller in callers.items():
                self.assertEqual(standing(tree, minute, name, away), rows[name])
                if name not in calls or minute < ends[caller]:
                    self.assertEqual(rows[name], "waiting")
                elif minute < calls[name][0]:
                    self.assertEqual(rows[name], "in line")
                elif minute < calls[name][1]:
                    self.assertEqual(rows[name], "called")
                else:
                    self.assertEqual(rows[name], "missed" if name in away else "told")
            going = [call for call in calls.values() if rows[call[3]] == "called"]
            self.assertEqual(going_at(tree, minute, away), sorted(going, key=lambda call: call[2]))


class Going(unittest.TestCase):
    def test_nobody_away(self):
        self.assertEqual(going_at(TREE, 0), [(0, 3, "", "ann", True)])
        self.assertEqual(going_at(TREE, 2), [(0, 3, "", "ann", True)])
        self.assertEqual(going_at(TREE, 3), [(3, 8, "", "bob", True), (3, 7, "ann", "cid", True)])
        self.assertEqual(going_at(TREE, 7, None), [
            (3, 8, "", "bob", True), (7, 8, "ann", "dan", True), (7, 9, "cid", "eve", True),
        ])
        self.assertEqual(going_at(TREE, 13), [(8, 14, "bob", "fay", True)])
        self.assertEqual(going_at(TREE, 14), [])
        self.assertEqual(going_at(TREE, 5999), [])

    def test_some_away(self):
        self.assertEqual(going_at(TREE, 1, ("ann",)), [(0, 2, "", "ann", False)])
        self.assertEqual(going_at(TREE, minute=7, away=("ann",)), [
            (7, 12, "", "bob", True), (6, 8, "cid", "eve", True),
        ])

    def test_by_callers_not_by_starts(self):
        tree = (1, 0, (("z", "", 1), ("b", "", 9), ("y", "z", 2), ("x", "z", 2), ("w", "y", 9)))
        self.assertEqual(going_at(tree, 4), [
            (1, 10, "", "b", True), (3, 12, "y", "w", True), (3, 5, "z", "x", True),
        ])


class Refused(unittest.TestCase):
    def asks(self, tree, minute, name, away):
        return (
            lambda: standing(tree, minute, name, away),
            lambda: standings(tree, minute, away),
            lambda: going_at(tree, minute, away),
        )

    def test_bad_tree_ahead(self):
        for ask in self.asks((1, 9, ()), -1, "zoe", ("zoe",)):
            with self.assertRaises(BadTree):
                ask()

    def test_bad_away_next(self):
        for minute in (0, -1, None):
            for ask in self.asks(TREE, minute, "zoe", ("bob", "ann")):
                with self.assertRaises(BadAway) as caught:
                    ask()
                self.assertEqual(caught.exception.number, 1)

    def test_no_minute_ahead_of_no_name(self):
        for minute in NO_MINUTES:
            for name in ("ann", "zoe", ""):
                for ask in self.asks(TREE, minute, name, ("ann",)):
                    with self.assertRaises(OutOfPlace):
                        ask()

    def test_no_name(self):
        for name in ("", "zoe", "Ann", None, True, 7, HUGE, ["ann"], ("ann",), b"ann"):
            with self.assertRaises(NoName) as caught:
                standing(TREE, 0, name)
            self.assertEqual(caught.exception.name, name)

    def test_of_anything(self):
        for thing in OTHER_KINDS:
            for ask in self.asks(thing, 0, "ann", None):
                with self.assertRaises(BadTree):
                    ask()
            if thing is not None and thing != ():
                for ask in self.asks(TREE, 0, "ann", thing):
                    with self.assertRaises(BadAway):
                        ask()
            if thing not in (0, 7) or isinstance(thing, bool):
                for ask in self.asks(TREE, thing, "ann", None):
                    with self.assertRaises(OutOfPlace):
                        ask()
            with self.assertRaises(NoName):
                standing(TREE, 0, thing)


if __name__ == "__main__":
    unittest.main()
