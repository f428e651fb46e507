"""Points [43], [44] and [46]: cases, stories, what they cost, and the cheapest of them."""

import unittest

from ringdown.errors import BadAway, BadHeard, BadMessage, BadPaper, BadPrices, BadTree, NoName
from ringdown.stories import count_stories, least_story, need_case, row_of, states_of, story_cost, story_price
from tests.allstories import PRICES, SOME_CASES, carriers_of, mixed_cases, row_by_calls, states_by_hand, story_costs
from tests.allstories import there_of
from tests.samples import HUGE, NAMES, OTHER_KINDS, TREE, AlikeToAll, Thing, chain, flat, mixed_trees, twofold, with_deep

# Dropped 1, overheard 2, left out 3, put in 4, put otherwise 5, broken off 6.
PRICE = PRICES[0]
FIRST = ("fire", "in", "hall")
CASE = (TREE, ("dan",), PRICE, FIRST, (("bob", ("fire",)), ("cid", ())))
ASKS = (need_case, states_of, row_of, lambda case: story_cost(case, None), story_price, count_stories, least_story)


class Cases(unittest.TestCase):
    def refuse(self, kind, number, case):
        for ask in ASKS:
            with self.assertRaises(kind) as caught:
                ask(case)
            if kind is BadTree:
                self.assertEqual((caught.exception.part, caught.exception.number), number)
            else:
                self.assertEqual(caught.exception.number, number)

    def test_cases(self):
        for case in (CASE, CASE[:4] + ((),), (TREE, (), PRICE, ("a",), tuple((row[0], ()) for row in sorted(TREE[2])))):
            self.assertIsNone(need_case(case))
        for case in SOME_CASES:
            self.assertIsNone(need_case(case))

    def test_no_tuples_of_five(self):
        for thing in OTHER_KINDS + (CASE[:4], CASE + ((),), list(CASE), AlikeToAll()):
            self.refuse(BadHeard, None, thing)

    def test_in_their_order(self):
        bad = [(1, 0, (("a", "", 1), ("a", "", 1))), ("zoe",), (0, 0, 0, 10, 0, 0), ("a", "B"), (("zoe", ()),)]
        self.refuse(BadTree, ("people", 1), tuple(bad))
        bad[0] = TREE
        self.refuse(BadAway, 0, tuple(bad))
        bad[1] = ("dan",)
        self.refuse(BadPrices, 3, tuple(bad))
        bad[2] = PRICE
        self.refuse(BadMessage, 1, tuple(bad))
        bad[3] = FIRST
        self.refuse(BadHeard, 0, tuple(bad))
        bad[4] = ()
        self.assertIsNone(need_case(tuple(bad)))

    def test_each_part_of_anything(self):
        for thing in OTHER_KINDS + (AlikeToAll(),):
            for ask in ASKS:
                with self.assertRaises(BadTree):
                    ask((thing,) + CASE[1:])
                if not isinstance(thing, tuple) or thing:
                    with self.assertRaises(BadAway):
                        ask(CASE[:1] + (thing,) + CASE[2:])
                with self.assertRaises(BadPrices):
                    ask(CASE[:2] + (thing,) + CASE[3:])
                with self.assertRaises(BadMessage):
                    ask(CASE[:3] + (thing,) + CASE[4:])
                if not isinstance(thing, tuple) or thing:
                    with self.assertRaises(BadHeard):
                        ask(CASE[:4] + (thing,))

    def test_none_is_nobody_nowhere_here(self):
        self.refuse(BadAway, None, (TREE, None, PRICE, FIRST, ()))
        self.refuse(BadMessage, None, (TREE, (), PRICE, (), ()))
        self.refuse(BadHeard, None, (TREE, (), PRICE, FIRST, None))

    def test_no_heard(self):
        sixteen = flat(16)
        rows = tuple((name, ("a",)) for name in NAMES)
        self.assertIsNone(need_case((sixteen, (), PRICE, FIRST, rows)))
        for thing in (rows + (("zz", ()),), list(rows), "", {}, AlikeToAll()):
            self.refuse(BadHeard, None, (sixteen, (), PRICE, FIRST, thing))

    def test_rows_of_heard(self):
        good = (("ann", ()), ("bob", ("a",)), ("eve", FIRST))
        for number in range(3):
            name = good[number][0]
            for thing in (None, (), (name,), (name, (), ()), [name, ()], name, AlikeToAll(), HUGE, True,
                          ("zoe", ()), ("", ()), ("dan", ()), (None, ()), (0, ()), ([name], ()), (AlikeToAll(), ()),
                          (name, None), (name, ["a"]), (name, "a"), (name, ("A",)), (name, ("a",) * 7), (name, (None,)),
                          (name, AlikeToAll()), (name, (AlikeToAll(),)), (name, (())  + ("",))):
                heard = good[:number] + (thing,) + good[number + 1:]
                self.refuse(BadHeard, number, (TREE, ("dan",), PRICE, FIRST, heard))
        self.refuse(BadHeard, 1, (TREE, (), PRICE, FIRST, (("bob", ()), ("ann", ()))))
        self.refuse(BadHeard, 1, (TREE, (), PRICE, FIRST, (("bob", ()), ("bob", ()))))
        self.refuse(BadHeard, 2, (TREE, (), PRICE, FIRST, (("ann", ()), ("bob", ()), ("ann", ("a",)), None)))


class States(unittest.TestCase):
    def test_once_and_rising(self):
        self.assertEqual(states_of(CASE), ((), ("fire",), FIRST))
        self.assertEqual(states_of(case=CASE[:4] + ((),)), ((), FIRST))
        heard = (("ann", ("b",)), ("bob", ("a", "b")), ("cid", ("b",)), ("eve", FIRST), ("fay", ("a",)))
        self.assertEqual(states_of(CASE[:4] + (heard,)), ((), ("a",), ("a", "b"), ("b",), FIRST))
        for case in mixed_cases(5, 30, 101):
            self.assertEqual(states_of(case), tuple(states_by_hand(case)))

    def test_kinds(self):
        self.assertIs(type(states_of(CASE)), tuple)
        self.assertIs(type(row_of(CASE)), tuple)
        self.assertIs(type(story_cost(CASE, least_story(CASE))), int)
        self.assertIs(type(story_price(CASE)), int)
        self.assertIs(type(count_stories(CASE)), int)
        self.assertEqual([type(row) for row in least_story(CASE)], [tuple] * 5)


class Rows(unittest.TestCase):
    def test_by_hand(self):
        self.assertEqual(row_of(CASE), ("ann", "bob"))
        self.assertEqual(row_of(CASE, ""), ("ann", "bob"))
        self.assertEqual([row_of(CASE, name) for name in ("ann", "bob", "cid", "eve", "fay")],
                         [("cid",), ("fay",), ("eve",), (), ()])
        self.assertEqual(row_of(case=CASE, name="bob"), ("fay",))

    def test_in_the_place_of_away_ones(self):
        self.assertEqual(row_of((TREE, ("ann",), PRICE, FIRST, ())), ("cid", "dan", "bob"))
        self.assertEqual(row_of((TREE, ("ann", "cid"), PRICE, FIRST, ())), ("eve", "dan", "bob"))
        deep = with_deep(1)
        self.assertEqual(row_of((deep, ("ann",), PRICE, FIRST, ())), ("bob",))
        self.assertEqual(row_of((deep, ("ann",), PRICE, FIRST, ()), "cid"), ())

    def test_in_the_order_of_the_calls(self):
        tree = (2, 0, (("b", "", 1), ("a", "", 1), ("d", "b", 1), ("c", "", 1)))
        self.assertEqual(row_of((tree, (), PRICE, FIRST, ())), ("b", "a", "c"))
        self.assertEqual(row_of((tree, ("b",), PRICE, FIRST, ())), ("d", "a", "c"))
        for case in mixed_cases(6, 30, 102):
            for name in [""] + there_of(case):
                self.assertEqual(row_of(case, name), tuple(row_by_calls(case, name)))

    def test_who_is_not_there(self):
        for name in ("dan", "zoe", "Ann", "-", None, True, 0, HUGE, ["ann"], ("ann",), b"", Thing(), AlikeToAll(), {}):
            with self.assertRaises(NoName) as caught:
                row_of(CASE, name)
            self.assertIs(caught.exception.name, name)


class Costs(unittest.TestCase):
    def cost(self, tree, states, away=(), prices=PRICE, heard=()):
        story = tuple(zip(sorted(row[0] for row in tree[2] if row[0] not in away), states))
        return story_cost((tree, away, prices, FIRST, heard), story)

    def test_handed_on(self):
        tree = chain(2)
        heard = ((NAMES[1], ("fire", "hall")),)
        short = ("fire", "hall")
        self.assertEqual(self.cost(tree, (FIRST, FIRST)), 0)
        self.assertEqual(self.cost(tree, ((), ())), 1)
        self.assertEqual(self.cost(tree, (FIRST, ())), 1)
        # Broken off and overheard for less than it is changed, or not at all.
        self.assertEqual(self.cost(tree, (FIRST, short), heard=heard), 3)
        self.assertEqual(self.cost(tree, (short, short), heard=heard), 3)
        self.assertEqual(self.cost(tree, ((), short), heard=heard), 1 + 2)
        self.assertEqual(self.cost(tree, (FIRST, short), prices=(9, 1, 3, 4, 5, 1), heard=heard), 2)

    def test_overheard(self):
        tree = chain(2)
        heard = ((NAMES[1], FIRST),)
        self.assertEqual(self.cost(tree, ((), FIRST), heard=heard), 1 + 2)

    def test_a_row_broken_off(self):
        tree = flat(4)
        prices = (5, 9, 9, 9, 9, 7)
        self.assertEqual(self.cost(tree, (FIRST, (), (), ()), prices=prices), 7)
        self.assertEqual(self.cost(tree, (FIRST, FIRST, FIRST, ()), prices=prices), 5)
        self.assertEqual(self.cost(tree, ((), (), (), ()), prices=prices), 7)
        # Whoever hears it behind that overhears it.
        self.assertEqual(self.cost(tree, ((), FIRST, (), ()), prices=prices), 5 + 7)
        self.assertEqual(self.cost(tree, ((), (), FIRST, ()), prices=prices), 5 + 5 + 5)
        self.assertEqual(self.cost(tree, ((), (), (), FIRST), prices=prices), 15)
        self.assertEqual(self.cost(tree, ((), (), (), FIRST), prices=(5, 1, 9, 9, 9, 7)), 8)
        self.assertEqual(self.cost(tree, ((), (), (), ()), prices=(5, 1, 9, 9, 9, 0)), 0)

    def test_nothing_heard_has_nothing_to_break_off(self):
        tree = (2, 0, (("a", "", 1), ("b", "a", 1), ("c", "a", 1)))
        for broken in (0, 9):
            self.assertEqual(self.cost(tree, ((), FIRST, FIRST), prices=(1, 2, 3, 4, 5, broken)), 1 - (broken == 0) + 4)

    def test_without_a_carrier(self):
        tree = (2, 1, (("a", "", 1), ("b", "a", 1), ("c", "a", 1)))
        self.assertEqual(self.cost(tree, ((), ()), away=("a",)), 0)
        self.assertEqual(self.cost(tree, (FIRST, ()), away=("a",)), 2)
        self.assertEqual(self.cost(tree, (FIRST, FIRST), away=("a",)), 4)

    def test_held_against_going_through(self):
        for case in SOME_CASES + tuple(mixed_cases(4, 25, 103)):
            for story, cost in list(story_costs(case).items())[::5]:
                self.assertEqual(story_cost(case, story), cost, (case, story))

    def test_by_names_of_arguments(self):
        self.assertEqual(story_cost(case=CASE, story=least_story(CASE)), story_price(CASE))


class NoStories(unittest.TestCase):
    STORY = (("ann", FIRST), ("bob", ("fire",)), ("cid", ()), ("eve", ()), ("fay", ("fire",)))

    def refuse(self, number, story):
        with self.assertRaises(BadPaper) as caught:
            story_cost(CASE, story)
        self.assertEqual(caught.exception.place, number)

    def test_no_tuples_of_just_so_many(self):
        self.assertEqual(story_cost(CASE, self.STORY), 6 + 1)
        for thing in OTHER_KINDS + (self.STORY[1:], self.STORY[:-1], self.STORY + (("gus", ()),), list(self.STORY),
                                    dict(self.STORY), AlikeToAll()):
            self.refuse(None, thing)
        with self.assertRaises(BadPaper) as caught:
            story_cost((TREE, (), PRICE, FIRST, ()), self.STORY)
        self.assertIsNone(caught.exception.place)
        self.assertEqual(story_cost(SOME_CASES[5], ()), 0)

    def test_rows_that_can_not_be(self):
        for number, (name, state) in enumerate(self.STORY):
            for thing in (None, (), (name,), (name, state, state), [name, state], name, HUGE, True, AlikeToAll(),
                          ("zoe", state), ("dan", state), ("", state), (None, state), ([name], state), (AlikeToAll(), state),
                          (name, None), (name, list(state)), (name, "fire"), (name, ("hall",)), (name, ("fire", "in")),
                          (name, AlikeToAll()), (name, (AlikeToAll(),)), (name, (None,)), (name, ((),)), (name, ([],))):
                self.refuse(number, self.STORY[:number] + (thing,) + self.STORY[number + 1:])
                self.refuse(number, self.STORY[:number] + (thing,) + (None,) * (4 - number))

    def test_not_as_heard(self):
        for state in ((), FIRST):
            self.refuse(1, self.STORY[:1] + (("bob", state),) + self.STORY[2:])
        for state in (("fire",), FIRST):
            self.refuse(2, self.STORY[:2] + (("cid", state),) + self.STORY[3:])

    def test_names_in_another_order(self):
        self.refuse(0, self.STORY[1:2] + self.STORY[:1] + self.STORY[2:])
        self.refuse(3, self.STORY[:3] + self.STORY[4:] + self.STORY[3:4])
        self.refuse(1, self.STORY[:1] + self.STORY[:1] + self.STORY[2:])


class Cheapest(unittest.TestCase):
    def hold(self, case):
        costs = story_costs(case)
        price = min(costs.values())
        cheapest = [story for story, cost in costs.items() if cost == price]
        self.assertEqual(story_price(case), price, case)
        self.assertEqual(count_stories(case), len(cheapest), case)
        self.assertEqual(least_story(case), min(cheapest), case)

    def test_by_hand(self):
        self.assertEqual(story_price(CASE[:4] + ((),)), 0)
        self.assertEqual(count_stories(CASE[:4] + ((),)), 1)
        self.assertEqual(least_story(CASE[:4] + ((),)), tuple((name, FIRST) for name in ("ann", "bob", "cid", "eve", "fay")))
        tree = chain(3)
        case = (tree, (), PRICE, ("a",), ((NAMES[2], ()),))
        # Any of the three may have dropped it, the bell too.
        self.assertEqual((story_price(case), count_stories(case)), (1, 3))
        self.assertEqual(least_story(case), tuple((name, ()) for name in NAMES[:3]))
        self.assertEqual(least_story(case=case), least_story(case))

    def test_broken_off_in_two_ways_counts_once(self):
        # Broken off at the first of the two, or dropped twice: both cost the same, and it is one story.
        heard = ((NAMES[1], ()), (NAMES[2], ()))
        case = (flat(3), (), (1, 1, 9, 9, 9, 2), ("a",), ((NAMES[0], ("a",)),) + heard)
        self.assertEqual((story_price(case), count_stories(case)), (2, 1))
        # Another one is broken off ahead of all three.
        case = (flat(3), (), (1, 1, 9, 9, 9, 2), ("a",), heard)
        self.assertEqual((story_price(case), count_stories(case)), (2, 2))
        case = (flat(2), (), (0, 0, 0, 0, 0, 0), ("a",), ())
        self.assertEqual((story_price(case), count_stories(case)), (0, 4))

    def test_nobody(self):
        for case in SOME_CASES[-2:]:
            self.assertEqual((story_price(case), count_stories(case), least_story(case)), (0, 1, ()))

    def test_some_cases_gone_through(self):
        for case in SOME_CASES:
            self.hold(case)

    def test_mixed_cases_gone_through(self):
        for many, count in ((1, 10), (2, 20), (3, 60), (4, 100), (5, 60)):
            for case in mixed_cases(many, count, 110 + many):
                self.hold(case)

    def test_rows_of_many_gone_through(self):
        for at, prices in enumerate(PRICES):
            tree = (2, 0, tuple((name, "", 1) for name in NAMES[:6]))
            self.hold((tree, (), prices, ("a", "b"), ((NAMES[at % 6], ("b", "c")),)))
            under = (2, 0, (("a", "", 1),) + tuple((name, "a", 1) for name in NAMES[:5]))
            self.hold((under, (), prices, ("a", "b"), (("a", ("b",)), (NAMES[at % 5], ("c",)))))

    def test_lost_ones_gone_through(self):
        for at, prices in enumerate(PRICES):
            tree = (2, 1, (("a", "", 1), ("b", "a", 1), ("c", "a", 1), ("d", "b", 1), ("e", "", 1)))
            case = (tree, ("a",), prices, ("a", "b"), (("c", ("b",)),)[at % 2:])
            self.assertEqual([name for name in there_of(case) if name not in carriers_of(case)], ["b", "c", "d"])
            self.hold(case)


class Sixteen(unittest.TestCase):
    def test_nobody_heard(self):
        for tree in (chain(16), flat(16), twofold(16)):
            case = (tree, (), PRICE, FIRST, ())
            self.assertEqual((story_price(case), count_stories(case)), (0, 1))
            self.assertEqual(least_story(case), tuple((name, FIRST) for name in NAMES))

    def test_sixteen_heard(self):
        heard = tuple((name, ("a", name) if at % 3 else ()) for at, name in enumerate(NAMES))
        for tree in (chain(16), flat(16), twofold(16)) + tuple(mixed_trees(16, 5, 131)):
            for prices in PRICES:
                case = (tree, (), prices, FIRST, heard)
                self.assertEqual(least_story(case), heard)
                self.assertEqual(story_price(case), story_cost(case, heard))
                self.assertEqual(count_stories(case), 1)

    def test_eight_heard(self):
        heard = tuple((name, ("a", name)) for name in NAMES[1::2])
        for tree in (chain(16), flat(16), twofold(16)) + tuple(mixed_trees(16, 5, 132)):
            for prices in PRICES[:5]:
                for away in ((), NAMES[::4]):
                    case = (tree, away, prices, FIRST, heard)
                    story = least_story(case)
                    self.assertEqual(story_cost(case, story), story_price(case))
                    self.assertGreaterEqual(count_stories(case), 1)

    def test_in_a_row_counts_multiply(self):
        # Each of sixteen may have it or not, where nothing costs anything.
        self.assertEqual(count_stories((flat(16), (), PRICES[1], FIRST, ())), 2 ** 16)
        self.assertEqual(count_stories((chain(16), (), PRICES[1], FIRST, ())), 2 ** 16)
        lost = (2, 1, (("a", "", 1),) + tuple((name, "a", 1) for name in NAMES[:15]))
        self.assertEqual(count_stories((lost, ("a",), PRICES[1], FIRST, ())), 2 ** 15)
        self.assertEqual(count_stories((lost, ("a",), PRICE, FIRST, ())), 1)


if __name__ == "__main__":
    unittest.main()
