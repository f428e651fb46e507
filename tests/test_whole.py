"""The whole program: how its parts go together, other names, and arguments handed in by their places and names."""

import importlib
import inspect
import re
import unittest
from random import Random

from ringdown.blame import check_must, fewest_to_blame, may_have_heard, must_have, must_paper, spared_price, sure_faults
from ringdown.bookread import read_book
from ringdown.changes import joined, left, moved, redeeped, retalked, rewaited
from ringdown.desk import Desk
from ringdown.fewest import best_sure, fewest
from ringdown.messages import change_cost
from ringdown.ordercheck import check_order, order_paper
from ringdown.orders import count_orders, in_order, soonest, tails
from ringdown.places import best_places
from ringdown.plan import Plan
from ringdown.plantext import plan_text, read_plan_text
from ringdown.ringbook import book_text
from ringdown.ringing import Ringing
from ringdown.rings import carrier_of, lost_names, quiet_of, ring_calls, told_minute, told_rows
from ringdown.shapes import shape_numbers
from ringdown.standings import going_at, standings
from ringdown.stories import count_stories, least_story, row_of, story_price
from ringdown.storypaper import check_story, story_paper
from ringdown.tree import below, in_walk, names_of
from ringdown.ways import slack_of, way_of
from ringdown.worst import worsts
from ringdown.worsttables import worst_table
from tests.allstories import PRICES, mixed_cases
from tests.ringmodel import all_asked
from tests.samples import NAMES, TREE, chain, flat, mixed_trees, twofold, with_deep
from tests.test_books import told_story
from tests.test_interface import FUNCTIONS

# Names as samples and stories have them; no message, happening or other word here is like that.
SAMPLE = re.compile(r"z?(([a-p])\2){1,2}")
AWAY = ("bob", "dan")
CASE = (TREE, ("dan",), PRICES[0], ("fire", "in", "hall"), (("bob", ("fire",)), ("cid", ())))
STEPS = (("kept",), ("put", "b"))


def renamed(thing):
    """The same thing by other names of the same order."""
    if isinstance(thing, str):
        return "n" + thing if SAMPLE.fullmatch(thing) else thing
    if isinstance(thing, (tuple, list)):
        return type(thing)(renamed(each) for each in thing)
    if isinstance(thing, dict):
        return {renamed(key): renamed(worth) for key, worth in thing.items()}
    return thing


def renamed_text(text):
    for sign in ("\n", ", ", " "):
        if sign in text:
            return sign.join(renamed_text(each) for each in text.split(sign))
    return renamed(text)


class OneHappening(unittest.TestCase):
    def test_a_ringing_tells_whom_the_plans_ring_tells(self):
        dice = Random(801)
        trees = [with_deep(0, tree) for tree in mixed_trees(7, 40, 802)] + [chain(16), flat(16), twofold(16)]
        for tree in trees:
            away = tuple(sorted(name for name in names_of(tree) if dice.random() < 0.3))
            plan = Plan(tree, away)
            live = Ringing(plan.tree(), plan.away())
            start = dice.randint(0, 9)
            if start:
                live.go(start)
            live.ring("fire")
            self.assertEqual(live.forecast("fire"), [(start + call[1], call[3]) for call in by_ends(plan) if call[4]])
            end = live.till_quiet()
            self.assertEqual(end, start + plan.quiet())
            self.assertEqual(sorted(live.told("fire")), [(start + minute, name) for minute, name in told_rows(tree, away)])
            self.assertEqual([(call[0] - start, call[1] - start) + call[2:5] for call in live.calls()], by_ends(plan))
            self.assertEqual(live.missed("fire"), [name for name in away if carrier_of(tree, name, away) is not None])
            for name in names_of(tree):
                told = told_minute(tree, name, away)
                self.assertEqual(told is not None, live.standing("fire", name) == "told")
                chained = [row[1] for row in live.chain("fire", name)]
                self.assertEqual(chained, carriers_till(tree, name, away) if told is not None else [])

    def test_standings_at_each_minute(self):
        for tree in [with_deep(0, tree) for tree in mixed_trees(5, 15, 803)]:
            away = names_of(tree)[1:2]
            live = Ringing(tree, away)
            live.ring("fire")
            for minute in range(1, quiet_of(tree, away) + 2):
                live.go()
                # What begins at that minute has begun in a RING, not yet in a RINGING.
                begins = [call[3] for call in ring_calls(tree, away) if call[0] == minute]
                for name, word in standings(tree, minute, away):
                    self.assertEqual(live.standing("fire", name), "in line" if name in begins else word)
                going = [call[:5] for call in live.going()]
                self.assertEqual(going, [call for call in going_at(tree, minute, away) if call[0] != minute])

    def test_nothing_is_late_where_all_goes_as_planned(self):
        for tree in [with_deep(0, tree) for tree in mixed_trees(8, 15, 804)]:
            desk = Desk(plan_text(tree, names_of(tree)[:1]))
            for line in ("start", "live go 7", "live ring fire"):
                desk.say(line)
            self.assertEqual(desk.say("late fire"), "none")
            desk.say("live till_quiet")
            self.assertEqual(desk.say("late fire"), "none")
            self.assertEqual(desk.say("adopt"), "done")
            self.assertEqual(desk.say("late fire"), "none")


def by_ends(plan):
    """The CALLs of a plan as they end."""
    return sorted(plan.calls(), key=lambda call: (call[1], call[2]))


def carriers_till(tree, name, away):
    return ([] if name == "" else carriers_till(tree, carrier_of(tree, name, away), away)) + [name]


class OtherNames(unittest.TestCase):
    def hold(self, ask, *things):
        """What is asked of the things by other names is the same by these."""
        self.assertEqual(ask(*[renamed(thing) for thing in things]), renamed(ask(*things)), (ask, things))

    def test_of_the_same_order(self):
        self.assertEqual(sorted(renamed(NAMES)), list(renamed(tuple(sorted(NAMES)))))
        self.assertFalse(set(renamed(NAMES)) & set(NAMES))

    def test_trees_rings_and_the_worst(self):
        for tree in mixed_trees(6, 15, 811):
            away = tuple(sorted(names_of(tree)))[::3]
            for ask in (ring_calls, told_rows, lost_names, tails, in_order, soonest, count_orders, order_paper):
                self.hold(ask, tree, away)
            for ask in (in_walk, shape_numbers, worsts, below, best_sure_of, lambda tree: worst_table(tree, 2),
                        lambda tree: best_places(tree, 3, 1), lambda tree: fewest(tree, 20),
                        lambda tree: standings(tree, 7), lambda tree: rewaited(tree, 9), lambda tree: redeeped(tree, 1)):
                self.hold(ask, tree)
            for name in names_of(tree):
                for ask in (told_minute, carrier_of, way_of, slack_of):
                    self.hold(ask, tree, name, away)
                self.hold(left, tree, name)
                self.hold(lambda tree, name: moved(tree, name, "", 0), tree, name)
                self.hold(lambda tree, name: retalked(tree, name, 9), tree, name)
                self.hold(lambda tree, name, more: joined(tree, more, name, 9), tree, name, NAMES[15])

    def test_stories(self):
        for case in mixed_cases(4, 25, 812):
            for ask in (story_price, count_stories, least_story, story_paper, sure_faults, fewest_to_blame, spared_price,
                        must_have, must_paper, row_of):
                self.hold(ask, case)
            for name in [row[0] for row in case[0][2] if row[0] not in case[1]]:
                for ask in (may_have_heard, spared_price, must_have, must_paper, row_of):
                    self.hold(ask, case, name)
            self.assertIs(check_story(renamed(case), renamed(story_paper(case))), True)

    def test_ringings_and_their_books(self):
        for seed in range(12):
            tree, away, story = told_story(820 + seed, 3 + seed % 5)
            one, other = Ringing(tree, away), Ringing(renamed(tree), renamed(away))
            for step in story:
                getattr(one, step[0])(*step[1:])
                getattr(other, step[0])(*renamed(step[1:]))
            self.assertEqual(all_asked(other), renamed(all_asked(one)))
            self.assertEqual(other.deeds(), renamed(one.deeds()))
            self.assertEqual(book_text(other), renamed_text(book_text(one)))
            self.assertEqual(read_book(renamed_text(book_text(one))), other)

    def test_desks(self):
        text = plan_text(twofold(6), NAMES[2:4])
        one, other = Desk(text), Desk(renamed_text(text))
        for line in ("plan last", "plan worst 2 told bb", "plan go_away aa", "plan changed", "plan lost", "start", "live ring fire",
                     "live go 4", "live line", "live going", "live leave aa", "live come_back cc", "live till_quiet",
                     "live calls", "live chain fire ff", "live missed fire", "late fire", "plan put_in_order sum", "plan text",
                     "live book", "back", "again", "plan calls", "plan join gg bb 7", "plan move gg aa 0", "plan text"):
            self.assertEqual(other.say(renamed_text(line)), renamed_text(one.say(line)), line)
        self.assertEqual(other.lines(), [renamed_text(line) for line in one.lines()])


def best_sure_of(tree):
    return best_sure(tree, 2)


# By the names of arguments: something that can be handed in.
HANDED = {
    "thing": "ann", "least": 3, "most": 9, "word": "0:07", "row": "a b", "minute": 7, "tree": TREE, "away": AWAY, "name": "ann",
    "one": TREE, "other": TREE, "text": "tree 1 0", "many": 2, "which": "last", "sure": ("cid",), "rounds": 3, "hands": 5,
    "names": ("a", "b", "c"), "talk": 7, "wait": 3, "deep": 2, "prices": PRICES[0], "steps": STEPS, "case": CASE, "caller": "bob",
    "place": 1, "calls": ring_calls(TREE, AWAY),
}
# Where these don't fit, by the names of functions.
OTHERWISE = {
    "is_among": {"thing": 5}, "need_tree": {"tree": TREE}, "is_away": {"thing": AWAY}, "number_of": {"word": "37"},
    "list_of": {"name": "ann"}, "measure_of": {"name": ""}, "worst": {"name": ""}, "worsts": {"name": ""},
    "worst_table": {"name": ""}, "worst_paper": {"name": ""}, "fewest": {"name": ""}, "fewest_paper": {"name": ""},
    "best_sure": {"name": ""}, "is_message": {"thing": ("a", "b")}, "need_message": {"thing": ("a", "b")},
    "need_prices": {"thing": PRICES[0]}, "change_cost": {"one": ("a",), "other": ("b",)},
    "steps_of": {"one": ("a",), "other": ("a", "b")}, "made_by": {"one": ("a",)},
    "change_paper": {"one": ("a",), "other": ("b",)}, "check_change": {"one": ("a",), "other": ("b",), "paper": None},
    "story_cost": {"story": least_story(CASE)}, "check_story": {"paper": story_paper(CASE)},
    "check_must": {"name": "", "paper": must_paper(CASE)}, "joined": {"name": "new"}, "moved": {"name": "dan"},
    "same_shape": {"one": "ann", "other": "bob"}, "soonest_tree": {"names": ("a", "b", "c")},
    "check_order": {"paper": order_paper(TREE, AWAY), "which": "last"},
    "check_worst": {"paper": None, "name": ""}, "check_fewest": {"paper": None, "name": ""},
    "read_plan_text": {"text": plan_text(TREE, AWAY)}, "book_text": {"ringing": Ringing(TREE, AWAY)},
    "read_book": {"text": book_text(Ringing(TREE, AWAY))},
}


class Arguments(unittest.TestCase):
    def handed_to(self, name, made):
        things = {**HANDED, **OTHERWISE.get(name, {})}
        if name in ("check_worst", "check_fewest"):
            tell = importlib.import_module("ringdown.worsttables" if name == "check_worst" else "ringdown.fewest")
            paper = tell.worst_paper(TREE, 2, "last", "", ("cid",)) if name == "check_worst" else \
                tell.fewest_paper(TREE, 3, "last", "", ("cid",))
            things["paper"] = paper
        return {each: things[each] for each in inspect.signature(made).parameters}

    def test_each_function_by_places_and_by_names(self):
        count = 0
        for file, functions in FUNCTIONS.items():
            module = importlib.import_module("ringdown." + file)
            for name in functions:
                with self.subTest(file=file, name=name):
                    made = getattr(module, name)
                    handed = self.handed_to(name, made)
                    told = made(*handed.values())
                    self.assertEqual(made(**handed), told)
                    self.assertEqual(made(**dict(reversed(list(handed.items())))), told)
                    self.left_out(made, handed)
                    count += 1
        self.assertGreater(count, 80)

    def left_out(self, made, handed):
        """What may be left out is what is told for it."""
        fixed = {each.name: each.default for each in inspect.signature(made).parameters.values()}
        needed = [each for each in handed if fixed[each] is inspect.Parameter.empty]
        most = {each: handed[each] if each in needed else fixed[each] for each in handed}
        if made.__name__ == "check_order":
            most["paper"] = order_paper(TREE)
        if made.__name__ in ("check_calls", "check_worst", "check_fewest"):
            # The calls, or the paper, are those by what is handed in above.
            return
        self.assertEqual(made(*[most[each] for each in needed]), made(**most))

    def test_papers_and_calls_with_what_may_be_left_out_left_out(self):
        for file, name, lead in (("ringcheck", "check_calls", (TREE, ring_calls(TREE))),
                                 ("worstcheck", "check_worst", (TREE, 2, papers("worsttables").worst_paper(TREE, 2))),
                                 ("worstcheck", "check_fewest", (TREE, 3, papers("fewest").fewest_paper(TREE, 3))),
                                 ("ordercheck", "check_order", (TREE, order_paper(TREE)))):
            made = getattr(importlib.import_module("ringdown." + file), name)
            rest = [each.default for each in list(inspect.signature(made).parameters.values())[len(lead):]]
            self.assertEqual(made(*lead), made(*lead, *rest))

    def test_classes(self):
        self.assertEqual(Plan(), Plan(tree=None, away=None))
        self.assertEqual(Ringing(), Ringing(tree=None, away=None))
        self.assertEqual(Desk().plan(), Desk(text=None).plan())
        self.assertEqual((check_order(TREE, order_paper(TREE)), change_cost(PRICES[0], ("a",), ("a",))), (soonest(TREE), 0))
        self.assertIs(check_must(CASE, "", must_paper(CASE)), True)
        self.assertEqual(read_plan_text(plan_text(TREE)), (TREE, ()))


def papers(file):
    return importlib.import_module("ringdown." + file)


if __name__ == "__main__":
    unittest.main()
