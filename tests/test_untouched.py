"""Point [0]: nothing handed in is changed, and what is told is the asker's own."""

import unittest
from copy import deepcopy

from ringdown.blame import check_must, fewest_to_blame, may_have_heard, must_have, must_paper, spared_price, sure_faults
from ringdown.changepaper import change_paper
from ringdown.changes import joined, left, moved, redeeped, retalked, rewaited
from ringdown.counts import fewest_rounds, reached, soonest_tree
from ringdown.errors import BadCall
from ringdown.fewest import best_sure, fewest, fewest_paper
from ringdown.messages import change_cost, made_by, steps_of
from ringdown.ordercheck import check_order, order_paper
from ringdown.orders import count_orders, in_order, soonest, tails
from ringdown.places import best_places, places
from ringdown.ringcheck import check_calls
from ringdown.rings import carrier_of, last_of, lost_names, quiet_of, ring_calls, told_minute, told_rows
from ringdown.shapes import shape_numbers
from ringdown.standings import going_at, standing, standings
from ringdown.stories import count_stories, least_story, row_of, states_of, story_cost, story_price
from ringdown.storypaper import check_story, story_paper
from ringdown.tree import below, in_walk, is_away, is_tree, list_of, names_of
from ringdown.treetext import read_tree, tree_text
from ringdown.ways import slack_of, way_of
from ringdown.words import words_of
from ringdown.worst import measure_of, worst, worsts
from ringdown.worstcheck import check_fewest, check_worst
from ringdown.worsttables import worst_paper, worst_table
from tests.samples import TREE, with_deep

SHORT = with_deep(1)
AWAY = ("bob",)
PRICES = (1, 2, 3, 4, 5, 6)
ONE = ("a", "b")
OTHER = ("b", "c")
CASE = (TREE, AWAY, PRICES, ONE, (("cid", OTHER),))

TELL_LISTS = (
    lambda: words_of("a b c"),
    lambda: ring_calls(TREE, AWAY),
    lambda: told_rows(TREE, AWAY),
    lambda: lost_names(SHORT, AWAY),
    lambda: way_of(TREE, "fay", AWAY),
    lambda: standings(TREE, 3, AWAY),
    lambda: going_at(TREE, 3, AWAY),
    lambda: best_sure(TREE, 2),
    lambda: tails(TREE, AWAY),
    lambda: order_paper(TREE, AWAY),
    lambda: order_paper(TREE, AWAY, "sum"),
    lambda: places(TREE, 2, 1),
    lambda: best_places(TREE, 2, 1),
)

TELL_TUPLES = (
    lambda: names_of(TREE),
    lambda: list_of(TREE),
    lambda: below(TREE, "ann"),
    lambda: in_walk(TREE),
    lambda: read_tree(tree_text(TREE)),
    lambda: worsts(TREE),
    lambda: worst_table(TREE, 2),
    lambda: worst_paper(TREE, 2),
    lambda: fewest_paper(TREE, 18),
    lambda: in_order(TREE, AWAY),
    lambda: soonest_tree(("a", "b"), 2, 3),
    lambda: steps_of(PRICES, ONE, OTHER),
    lambda: made_by(PRICES, ONE, steps_of(PRICES, ONE, OTHER)),
    lambda: change_paper(PRICES, ONE, OTHER),
    lambda: states_of(CASE),
    lambda: row_of(CASE),
    lambda: least_story(CASE),
    lambda: story_paper(CASE),
    lambda: may_have_heard(CASE, "ann"),
    lambda: sure_faults(CASE),
    lambda: must_paper(CASE, "ann"),
    lambda: joined(TREE, "new", "ann", 3),
    lambda: left(TREE, "ann"),
    lambda: moved(TREE, "dan", "bob"),
    lambda: retalked(TREE, "dan", 9),
    lambda: rewaited(TREE, 9),
    lambda: redeeped(TREE, 2),
    lambda: shape_numbers(TREE),
)

TELL_NUMBERS = (
    lambda: last_of(TREE, AWAY),
    lambda: quiet_of(TREE, AWAY),
    lambda: told_minute(TREE, "eve", AWAY),
    lambda: slack_of(TREE, "eve", AWAY),
    lambda: measure_of(SHORT, AWAY, "lost"),
    lambda: worst(TREE, 2),
    lambda: check_worst(TREE, 2, worst_paper(TREE, 2)),
    lambda: fewest(TREE, 18),
    lambda: check_fewest(TREE, 18, fewest_paper(TREE, 18)),
    lambda: soonest(TREE, AWAY, "sum"),
    lambda: count_orders(TREE, AWAY),
    lambda: check_order(TREE, order_paper(TREE, AWAY), AWAY),
    lambda: reached(3, 2),
    lambda: fewest_rounds(3, 2),
    lambda: change_cost(PRICES, ONE, OTHER),
    lambda: story_cost(CASE, least_story(CASE)),
    lambda: story_price(CASE),
    lambda: count_stories(CASE),
    lambda: spared_price(CASE),
    lambda: fewest_to_blame(CASE),
)

TELL_TRUTHS = (
    lambda: must_have(CASE),
    lambda: check_story(CASE, story_paper(CASE)),
    lambda: check_must(CASE, "ann", must_paper(CASE, "ann")),
)

TELL_TEXTS = (
    lambda: tree_text(TREE),
    lambda: carrier_of(TREE, "eve", AWAY),
    lambda: standing(TREE, 3, "bob", AWAY),
)


class Untouched(unittest.TestCase):
    def test_kinds(self):
        for kind, tellers in ((list, TELL_LISTS), (tuple, TELL_TUPLES), (int, TELL_NUMBERS), (str, TELL_TEXTS),
                              (bool, TELL_TRUTHS)):
            for tell in tellers:
                self.assertIs(type(tell()), kind)

    def test_rows_are_tuples(self):
        for tell in TELL_LISTS[1:3] + TELL_LISTS[4:]:
            for row in tell():
                self.assertIs(type(row), tuple)

    def test_what_is_told_is_the_askers_own(self):
        for tell in TELL_LISTS:
            first = tell()
            kept = deepcopy(first)
            self.assertTrue(first)
            first.reverse()
            first.append("more")
            first[0] = None
            self.assertEqual(tell(), kept)
            second = tell()
            first.clear()
            self.assertEqual(second, kept)

    def test_calls_told_and_changed_change_no_other_answer(self):
        calls = ring_calls(TREE, AWAY)
        way = way_of(TREE, "fay", AWAY)
        calls.clear()
        way.clear()
        self.assertEqual(check_calls(TREE, ring_calls(TREE, AWAY), AWAY), last_of(TREE, AWAY))
        self.assertEqual(len(standings(TREE, 3, AWAY)), 6)

    def test_calls_handed_in_are_not_changed(self):
        calls = ring_calls(TREE, AWAY)
        kept = deepcopy(calls)
        check_calls(TREE, calls, AWAY)
        self.assertEqual(calls, kept)
        wrong = [["a list"], kept[0]]
        with self.assertRaises(BadCall):
            check_calls(TREE, wrong, AWAY)
        self.assertEqual(wrong, [["a list"], kept[0]])

    def test_what_is_no_tree_is_not_changed(self):
        thing = [1, 0, [["a", "", 1]]]
        self.assertIs(is_tree(thing), False)
        self.assertEqual(thing, [1, 0, [["a", "", 1]]])
        away = ["ann"]
        self.assertIs(is_away(TREE, away), False)
        self.assertEqual(away, ["ann"])


if __name__ == "__main__":
    unittest.main()
