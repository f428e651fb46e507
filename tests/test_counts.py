"""Point [33]: how many can be reached by rounds, and soonest trees."""

import unittest
from itertools import product

from ringdown.counts import fewest_rounds, reached, soonest_tree
from ringdown.errors import OutOfPlace
from ringdown.rings import last_of
from ringdown.tree import is_tree, list_of, names_of
from tests.minutes import calls_by_minutes
from tests.samples import HUGE, NAMES, AlikeToAll

NO_NUMBERS = (None, True, False, "1", 1.0, (1,), [1], {}, HUGE, -HUGE, -1, AlikeToAll())


def all_trees(many, longest):
    """All trees of that many people, with lists that are no longer, of the talk 1."""
    for callers in product(*[("",) + NAMES[:at] for at in range(many)]):
        if all(callers.count(caller) <= longest for caller in callers):
            yield (1, 0, tuple((NAMES[at], caller, 1) for at, caller in enumerate(callers)))


class Reached(unittest.TestCase):
    def test_by_hand(self):
        self.assertEqual([reached(rounds, 1) for rounds in range(6)], [1, 2, 3, 4, 5, 6])
        self.assertEqual([reached(rounds, 2) for rounds in range(7)], [1, 2, 4, 7, 12, 20, 33])
        self.assertEqual([reached(rounds, 3) for rounds in range(7)], [1, 2, 4, 8, 15, 28, 52])
        self.assertEqual([reached(rounds, 16) for rounds in range(17)], [2 ** rounds for rounds in range(17)])
        self.assertEqual(reached(17, 16), 2 ** 17 - 1)
        self.assertEqual(reached(rounds=3, many=2), 7)

    def test_at_the_bounds(self):
        self.assertEqual([reached(0, many) for many in (1, 16)], [1, 1])
        self.assertEqual(reached(60, 1), 61)
        counts = [1]
        for _ in range(60):
            counts.append(1 + sum(counts[-16:]))
        self.assertEqual(reached(60, 16), counts[60])
        self.assertIs(type(reached(60, 16)), int)

    def test_no_tree_reaches_more(self):
        for longest in (1, 2, 3):
            for many in range(6):
                best = {rounds: 0 for rounds in range(6)}
                for tree in all_trees(many, longest):
                    ends = [call[1] for call in calls_by_minutes(tree, ())]
                    for rounds in best:
                        best[rounds] = max(best[rounds], 1 + len([end for end in ends if end <= rounds]))
                for rounds, most in best.items():
                    self.assertEqual(most, min(many + 1, reached(rounds, longest)))

    def test_refused(self):
        for rounds in NO_NUMBERS + (61,):
            with self.assertRaises(OutOfPlace):
                reached(rounds, 2)
        for many in NO_NUMBERS + (0, 17):
            with self.assertRaises(OutOfPlace):
                reached(2, many)


class FewestRounds(unittest.TestCase):
    def test_by_hand(self):
        self.assertEqual([fewest_rounds(hands, 1) for hands in range(5)], [0, 1, 2, 3, 4])
        self.assertEqual([fewest_rounds(hands, 2) for hands in range(13)], [0, 1, 2, 2, 3, 3, 3, 4, 4, 4, 4, 4, 5])
        self.assertEqual([fewest_rounds(hands, 16) for hands in (0, 1, 3, 4, 7, 8, 15, 16)], [0, 1, 2, 3, 3, 4, 4, 5])
        self.assertEqual(fewest_rounds(hands=7, many=2), 4)

    def test_at_the_bounds(self):
        self.assertEqual(fewest_rounds(1000, 1), 1000)
        self.assertEqual(fewest_rounds(1000, 16), 10)
        self.assertEqual(fewest_rounds(0, 16), 0)
        self.assertIs(type(fewest_rounds(1000, 1)), int)

    def test_held_against_reached(self):
        for many in range(1, 17):
            for hands in (0, 1, 2, 5, 16, 33, 60):
                rounds = fewest_rounds(hands, many)
                self.assertGreater(reached(rounds, many), hands)
                if rounds:
                    self.assertLessEqual(reached(rounds - 1, many), hands)

    def test_refused(self):
        for hands in NO_NUMBERS + (1001,):
            with self.assertRaises(OutOfPlace):
                fewest_rounds(hands, 2)
        for many in NO_NUMBERS + (0, 17):
            with self.assertRaises(OutOfPlace):
                fewest_rounds(2, many)


class SoonestTree(unittest.TestCase):
    def hold(self, names, many, talk, *rest):
        tree = soonest_tree(names, many, talk, *rest)
        self.assertTrue(is_tree(tree))
        self.assertEqual(sorted(names_of(tree)), sorted(names))
        self.assertTrue(all(person[2] == talk for person in tree[2]))
        for name in ("",) + names:
            self.assertLessEqual(len(list_of(tree, name)), many)
        self.assertEqual(last_of(tree), talk * fewest_rounds(len(names), many))
        return tree

    def test_all_sizes(self):
        for count in range(17):
            for many in range(1, 17):
                for talk in (1, 7, 60):
                    tree = self.hold(NAMES[:count], many, talk)
                    self.assertEqual(tree[:2], (1, 0))

    def test_held_against_all_trees(self):
        for longest in (1, 2, 3):
            for many in range(6):
                least = min(max([call[1] for call in calls_by_minutes(tree, ())], default=0)
                            for tree in all_trees(many, longest))
                self.assertEqual(last_of(soonest_tree(NAMES[:many], longest, 1)), least)

    def test_names_in_any_order(self):
        self.hold(("zoe", "ann", "mo", "bob"), 2, 5)
        self.assertEqual(soonest_tree((), 3, 5), (1, 0, ()))
        self.assertEqual(soonest_tree(("zoe",), 1, 60), (1, 0, (("zoe", "", 60),)))

    def test_wait_and_deep(self):
        self.assertEqual(self.hold(NAMES[:3], 2, 5, 60)[:2], (60, 0))
        self.assertEqual(self.hold(NAMES[:3], 2, 5, 9, 4)[:2], (9, 4))
        tree = soonest_tree(names=("a", "b"), many=1, talk=2, wait=3, deep=1)
        self.assertEqual(tree, (3, 1, (("a", "", 2), ("b", "a", 2))))
        self.assertEqual(soonest_tree(("a",), 1, 2, deep=2), (1, 2, (("a", "", 2),)))

    def test_no_names(self):
        for names in (None, [], ["a"], "ab", "", {}, {"a"}, 3, True, HUGE, ("a", "a"), ("a", "b", "a"), ("A",), ("",),
                      (None,), (1,), (["a"],), ("abcdefghi",), NAMES + ("z",), (AlikeToAll(),), AlikeToAll()):
            with self.assertRaises(OutOfPlace):
                soonest_tree(names, 2, 5)

    def test_no_numbers(self):
        for thing in NO_NUMBERS:
            for numbers in ((thing, 5, 1, 0), (2, thing, 1, 0), (2, 5, thing, 0), (2, 5, 1, thing)):
                with self.assertRaises(OutOfPlace):
                    soonest_tree(("a",), *numbers)
        for numbers in ((0, 5), (17, 5), (2, 0), (2, 61), (2, 5, 0), (2, 5, 61), (2, 5, 1, 5)):
            with self.assertRaises(OutOfPlace):
                soonest_tree(("a",), *numbers)
        for numbers in ((1, 1, 1, 0), (16, 60, 60, 4)):
            soonest_tree(("a",), *numbers)


if __name__ == "__main__":
    unittest.main()
