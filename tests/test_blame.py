"""Points [46] to [48]: who may have heard what, faults, who is to blame, and papers that one must be."""

import unittest
from random import Random

from ringdown.blame import check_must, fewest_to_blame, may_have_heard, must_have, must_paper, spared_price, sure_faults
from ringdown.errors import BadAway, BadHeard, BadMessage, BadPrices, BadTree, NoName
from ringdown.stories import least_story, states_of, story_price
from tests.allstories import PRICES, SOME_CASES, carriers_of, mixed_cases, row_by_calls, story_costs, there_of
from tests.alltables import is_paper, is_story, numbers_by, tables_sum, with_number, with_thing
from tests.samples import HUGE, NAMES, OTHER_KINDS, TREE, AlikeToAll, Thing, chain, flat, mixed_trees, twofold

FIRST = ("fire", "in", "hall")
CASE = (TREE, ("dan",), PRICES[0], FIRST, (("bob", ("fire",)), ("cid", ())))
BIG = 10 ** 100
# a carries b and c; two of a row heard different things.
PARTED = ((2, 0, (("a", "", 1), ("b", "a", 1), ("c", "a", 1))), (), PRICES[0], ("x",), (("b", ()), ("c", ("x",))))


def by_going_through(case):
    """All that is told of a case, by all its stories."""
    costs = story_costs(case)
    price = min(costs.values())
    rows = {name: row_by_calls(case, name) for name in [""] + there_of(case)}
    carriers = carriers_of(case)
    cheapest, spared, fewest = [], dict.fromkeys(rows), []
    for story, cost in costs.items():
        states = {**dict(story), "": case[3]}
        blamed = [name for name, row in rows.items() if any(states[each] != states[name] for each in row)]
        for name in rows:
            if name not in blamed and (spared[name] is None or cost < spared[name]):
                spared[name] = cost
        if cost == price:
            cheapest.append(states)
            fewest.append(len(blamed))
    faults = [name for name in there_of(case)
              if all(states[name] != (states[carriers[name]] if name in carriers else ()) for states in cheapest)]
    may = {name: tuple(sorted({states[name] for states in cheapest})) for name in there_of(case)}
    must = {name: worth is None or worth > price for name, worth in spared.items()}
    return may, tuple(faults), spared, must, min(fewest)


class GoneThrough(unittest.TestCase):
    def hold(self, case):
        may, faults, spared, must, fewest = by_going_through(case)
        self.assertEqual({name: may_have_heard(case, name) for name in may}, may, case)
        self.assertEqual(sure_faults(case), faults, case)
        self.assertEqual({name: spared_price(case, name) for name in spared}, spared, case)
        self.assertEqual({name: must_have(case, name) for name in must}, must, case)
        self.assertEqual(fewest_to_blame(case), fewest, case)
        for name in must:
            self.hold_paper(case, name, must[name])
        return len(faults), list(must.values()), fewest

    def hold_paper(self, case, name, must):
        paper = must_paper(case, name)
        self.assertEqual(paper is not None, must)
        if must:
            self.assertIs(check_must(case, name, paper), True, (case, name))
            self.assertIs(is_paper(case, paper, name), True, (case, name))

    def test_some_cases(self):
        for case in SOME_CASES + (PARTED,):
            self.hold(case)

    def test_mixed_cases(self):
        faults, musts, fewest = 0, [], []
        for many, count in ((1, 12), (2, 30), (3, 60), (4, 80), (5, 30)):
            for case in mixed_cases(many, count, 220 + many):
                found = self.hold(case)
                faults += found[0]
                musts += found[1]
                fewest.append(found[2])
        self.assertGreater(faults, 20)
        self.assertGreater(musts.count(True), 50)
        self.assertEqual(set(fewest), {0, 1, 2, 3})

    def test_rows_of_many(self):
        for at, prices in enumerate(PRICES):
            tree = (2, 0, (("a", "", 1),) + tuple((name, "a", 1) for name in NAMES[:4]))
            heard = (("a", ("b",)), (NAMES[at % 4], ("c",)))
            self.hold((tree, (), prices, ("a", "b"), heard[at % 2:]))

    def test_lost_ones(self):
        for at, prices in enumerate(PRICES):
            tree = (2, 1, (("a", "", 1), ("b", "a", 1), ("c", "a", 1), ("d", "b", 1), ("e", "", 1)))
            for heard in ((), (("b", ("b",)),), (("c", ()), ("d", ("a", "b")), ("e", ()))):
                self.hold((tree, ("a",), prices, ("a", "b"), heard))


class ByHand(unittest.TestCase):
    def test_may_have_heard(self):
        tree = chain(3)
        case = (tree, (), PRICES[0], ("a",), ((NAMES[2], ()),))
        self.assertEqual([may_have_heard(case, name) for name in NAMES[:3]], [((), ("a",)), ((), ("a",)), ((),)])
        self.assertEqual(may_have_heard(case=case, name=NAMES[0]), ((), ("a",)))
        self.assertEqual(may_have_heard(CASE[:4] + ((),), "eve"), (FIRST,))

    def test_faults(self):
        case = (chain(3), (), PRICES[0], ("a",), ((NAMES[2], ()),))
        # Any of the three calls may have been the one.
        self.assertEqual(sure_faults(case), ())
        self.assertEqual(sure_faults(case[:4] + (((NAMES[0], ("a",)), (NAMES[1], ())),)), (NAMES[1],))
        self.assertEqual(sure_faults(case[:4] + (((NAMES[0], ()),),)), (NAMES[0],))
        self.assertEqual(sure_faults(case=PARTED), ("b",))

    def test_a_fault_without_a_carrier(self):
        lost = (2, 1, (("a", "", 1), ("b", "a", 1)))
        for heard, faults in ((((),), ()), ((("x",),), ("b",)), ((("y",),), ("b",))):
            case = (lost, ("a",), PRICES[0], ("x",), (("b", heard[0]),))
            self.assertEqual(sure_faults(case), faults)
        # Overheard for nothing: it may have been, and needn't.
        free = (lost, ("a",), PRICES[1], ("x",), ())
        self.assertEqual((sure_faults(free), may_have_heard(free, "b")), ((), ((), ("x",))))

    def test_blame(self):
        case = (chain(3), (), PRICES[0], ("a",), ((NAMES[0], ("a",)), (NAMES[1], ())))
        self.assertEqual([must_have(case, name) for name in ("",) + NAMES[:3]], [False, True, False, False])
        self.assertEqual([spared_price(case, name) for name in ("",) + NAMES[:3]], [1, None, 1, 1])
        self.assertEqual(spared_price(case=case, name=NAMES[0]), None)
        self.assertIs(must_have(case=case, name=NAMES[0]), True)
        self.assertEqual(fewest_to_blame(case=case), 1)

    def test_the_bell(self):
        case = (chain(3), (), PRICES[0], ("a",), ((NAMES[0], ()),))
        self.assertIs(must_have(case), True)
        self.assertIs(must_have(case, ""), True)
        self.assertIsNone(spared_price(case))
        self.assertIs(check_must(case, "", must_paper(case)), True)
        self.assertEqual(must_paper(case), must_paper(case, ""))
        self.assertEqual(must_paper(case=case, name=""), must_paper(case))
        # One more that is left out in between: the bell needn't be to blame, though it may.
        case = case[:4] + (((NAMES[1], ()),),)
        self.assertEqual((must_have(case), spared_price(case), must_paper(case)), (False, 1, None))

    def test_spared_at_a_price(self):
        # b and c are told by a, and both heard nothing: by a it is two to drop or to break off, by the bell one.
        case = (PARTED[0], (), (2, 9, 9, 9, 9, 9), ("x",), (("b", ()), ("c", ())))
        self.assertEqual(story_price(case), 2)
        self.assertEqual((spared_price(case), spared_price(case, "a")), (4, 2))
        self.assertEqual((must_have(case), must_have(case, "a")), (True, False))
        self.assertEqual(fewest_to_blame(case), 1)

    def test_fewest(self):
        self.assertEqual(fewest_to_blame((chain(3), (), PRICES[0], ("a",), ())), 0)
        case = (chain(4), (), PRICES[0], ("a",), ((NAMES[1], ()), (NAMES[3], ("a",))))
        self.assertEqual(by_going_through(case)[4], 2)
        self.assertEqual(fewest_to_blame(case), 2)
        # Two ways that cost alike: two calls of one caller, or one call each of two.
        tree = (2, 0, (("a", "", 1), ("b", "a", 1), ("c", "", 1)))
        case = (tree, (), (1, 0, 9, 9, 9, 9), ("x",), (("b", ()), ("c", ())))
        self.assertEqual((story_price(case), fewest_to_blame(case)), (2, 1))

    def test_nobody_there(self):
        for case in SOME_CASES[-2:]:
            self.assertEqual((sure_faults(case), fewest_to_blame(case)), ((), 0))
            self.assertEqual((spared_price(case), must_have(case), must_paper(case)), (0, False, None))
            self.assertIs(check_must(case, "", ((), ())), False)

    def test_kinds(self):
        self.assertIs(type(may_have_heard(CASE, "ann")), tuple)
        self.assertIs(type(sure_faults(CASE)), tuple)
        self.assertIs(type(spared_price(CASE, "fay")), int)
        self.assertIs(type(must_have(CASE)), bool)
        self.assertIs(type(fewest_to_blame(CASE)), int)
        story, rows = must_paper(PARTED, "a")
        self.assertEqual([type(each) for each in (story, rows) + story + rows], [tuple] * 8)
        self.assertIs(type(check_must(CASE, "", None)), bool)


class MustPapers(unittest.TestCase):
    def test_by_hand(self):
        # STATES (), x. a by each STATE makes the sum of those of b and c: one of them is None, so it makes None.
        self.assertEqual(states_of(PARTED), ((), ("x",)))
        paper = must_paper(PARTED, "a")
        self.assertEqual(paper[1], ((None, None), (0, None), (None, 0)))
        self.assertIs(check_must(PARTED, "a", paper), True)
        self.assertIs(check_must(case=PARTED, name="a", paper=paper), True)
        for number in (0, 9, BIG, -9):
            # Where it must be None, each number is no greater; but the SUM is one then.
            rows = ((number, number), (0, None), (None, 0))
            self.assertIs(check_must(PARTED, "a", (paper[0], rows)), number > 1)
            self.assertIs(is_paper(PARTED, (paper[0], rows), "a"), number > 1)

    def test_a_story_of_whatever_cost(self):
        case = (PARTED[0], (), (2, 9, 9, 9, 9, 9), ("x",), (("b", ()), ("c", ())))
        rows = must_paper(case)[1]
        costs = story_costs(case)
        shown = {story: check_must(case, "", (story, rows)) for story in costs}
        self.assertEqual(shown, {story: cost < 4 for story, cost in costs.items()})
        self.assertEqual(sorted(set(shown.values())), [False, True])

    def test_of_one_who_need_not_be(self):
        for case in SOME_CASES + tuple(mixed_cases(4, 30, 231)):
            for name in [""] + there_of(case):
                if not must_have(case, name):
                    self.assertIsNone(must_paper(case, name))
                    for other in [""] + there_of(case):
                        paper = must_paper(case, other)
                        if paper is not None:
                            self.assertIs(check_must(case, name, paper), False)

    def test_each_number(self):
        seen = {True: 0, False: 0}
        for case in SOME_CASES[:5] + (PARTED,) + tuple(mixed_cases(3, 30, 232)):
            for name in [""] + there_of(case):
                paper = must_paper(case, name)
                if paper is None:
                    continue
                story, rows = paper
                for number, row in enumerate(rows):
                    for place, worth in enumerate(row):
                        for other in (-1 if worth is None else worth - 1, 5 if worth is None else worth + 1, None, 0, -30):
                            spoiled = (story, with_number(rows, number, place, other))
                            right = is_paper(case, spoiled, name)
                            self.assertIs(check_must(case, name, spoiled), right, (case, name, spoiled))
                            seen[right] += 1
        self.assertGreater(min(seen.values()), 200)

    def test_several_numbers(self):
        dice = Random(233)
        seen = {True: 0, False: 0}
        for case in SOME_CASES[:5] + tuple(mixed_cases(4, 40, 234)):
            for name in [""] + there_of(case):
                paper = must_paper(case, name) or (least_story(case), must_free_rows(case))
                for _ in range(4):
                    story, rows = paper
                    for _ in range(dice.randint(1, 3)):
                        if rows and rows[0]:
                            number, place = dice.randrange(len(rows)), dice.randrange(len(rows[0]))
                            worth = rows[number][place]
                            other = dice.choice((None, -3, 9)) if worth is None else worth + dice.choice((-2, -1, 1))
                            rows = with_number(rows, number, place, other)
                    right = is_paper(case, (story, rows), name)
                    self.assertIs(check_must(case, name, (story, rows)), right, (case, name, rows))
                    seen[right] += 1
        self.assertGreater(min(seen.values()), 50)

    def test_other_things_in_the_place_of_a_number(self):
        story, rows = must_paper(PARTED, "a")
        for number, row in enumerate(rows):
            for place in range(len(row)):
                for thing in (True, False, "0", "", 0.0, (), (0,), [], AlikeToAll(), b"0"):
                    self.assertIs(check_must(PARTED, "a", (story, with_number(rows, number, place, thing))), False)
            for thing in (None, (), list(row), row[1:], row + (None,), "ab", HUGE, AlikeToAll()):
                self.assertIs(check_must(PARTED, "a", (story, with_thing(rows, number, thing))), False)

    def test_stories(self):
        story, rows = must_paper(PARTED, "a")
        for thing in (list(story), story[1:], story[:-1], story + story[-1:], (), None, dict(story), AlikeToAll(), "a"):
            self.assertIs(check_must(PARTED, "a", (thing, rows)), False)
        for number, row in enumerate(story):
            for thing in (None, list(row), row[:1], (row[0], None), (row[0], ("other",)), ("zoe", row[1]), AlikeToAll()):
                self.assertIs(check_must(PARTED, "a", (with_thing(story, number, thing), rows)), False)
            for state in states_of(PARTED):
                other = with_thing(story, number, (row[0], state))
                self.assertIs(check_must(PARTED, "a", (other, rows)), is_story(PARTED, other))

    def test_no_pair(self):
        paper = must_paper(PARTED, "a")
        for thing in OTHER_KINDS + (paper[:1], paper + ((),), list(paper), paper[::-1], AlikeToAll()):
            self.assertIs(check_must(PARTED, "a", thing), False)

    def test_the_sum_that_is_none(self):
        paper = must_paper(PARTED, "a")
        self.assertEqual(tables_sum(PARTED, numbers_by(PARTED, paper[1]), "a"), float("inf"))
        self.assertIsNone(spared_price(PARTED, "a"))


def must_free_rows(case):
    return tuple((0,) * len(states_of(case)) for _ in there_of(case))


class Sixteen(unittest.TestCase):
    def test_papers(self):
        heard = tuple((name, ("a", name) if at % 3 else ()) for at, name in enumerate(NAMES[1::2]))
        for tree in (chain(16), flat(16), twofold(16)) + tuple(mixed_trees(16, 2, 241)):
            for away in ((), NAMES[::8]):
                case = (tree, away, PRICES[0], FIRST, heard)
                count = 0
                for name in [""] + there_of(case):
                    paper = must_paper(case, name)
                    self.assertEqual(paper is not None, must_have(case, name))
                    count += paper is not None
                    self.assertIs(check_must(case, name, paper), paper is not None)
                self.assertLessEqual(count, fewest_to_blame(case))
                for name in sure_faults(case):
                    carrier = carriers_of(case).get(name)
                    if carrier is not None:
                        self.assertIs(must_have(case, carrier), True)
                for name in there_of(case):
                    self.assertIn(dict(least_story(case))[name], may_have_heard(case, name))

    def test_all_told_the_same(self):
        case = (chain(16), (), PRICES[0], FIRST, ())
        self.assertEqual((sure_faults(case), fewest_to_blame(case)), ((), 0))
        self.assertEqual(may_have_heard(case, NAMES[15]), (FIRST,))

    def test_as_many_as_there_can_be_to_blame(self):
        heard = tuple((name, ("a", name)) for name in NAMES)
        case = (chain(16), (), PRICES[0], FIRST, heard)
        self.assertEqual(fewest_to_blame(case), 16)
        self.assertEqual(sure_faults(case), NAMES)
        self.assertEqual([must_have(case, name) for name in ("",) + NAMES], [True] * 16 + [False])
        case = (flat(16), (), PRICES[2], FIRST, heard)
        self.assertEqual(fewest_to_blame(case), 1)


class Refused(unittest.TestCase):
    ASKS = (may_have_heard, lambda case, name: sure_faults(case), spared_price, must_have,
            lambda case, name: fewest_to_blame(case), must_paper, lambda case, name: check_must(case, name, None))

    def test_cases_ahead_of_names(self):
        bad = [(1, 0, (("a", "", 1), ("a", "", 1))), ("zoe",), (0, 0, 0, 10, 0, 0), ("a", "B"), (("zoe", ()),)]
        good = [TREE, ("dan",), PRICES[0], FIRST, ()]
        for ask in self.ASKS:
            for thing in OTHER_KINDS + (tuple(good[:4]), tuple(good + [()]), AlikeToAll()):
                with self.assertRaises(BadHeard) as caught:
                    ask(thing, "zoe")
                self.assertIsNone(caught.exception.number)
            for many, kind in enumerate((BadTree, BadAway, BadPrices, BadMessage, BadHeard)):
                with self.assertRaises(kind):
                    ask(tuple(good[:many] + bad[many:]), "zoe")

    def test_who_is_not_there(self):
        for ask in (may_have_heard, spared_price, must_have, must_paper, lambda case, name: check_must(case, name, None)):
            for name in ("dan", "zoe", "Ann", "-", None, True, 0, HUGE, ["ann"], ("ann",), b"", Thing(), AlikeToAll(), {}):
                with self.assertRaises(NoName) as caught:
                    ask(CASE, name)
                self.assertIs(caught.exception.name, name)

    def test_the_bell_heard_nothing_but_what_it_has(self):
        with self.assertRaises(NoName) as caught:
            may_have_heard(CASE, "")
        self.assertEqual(caught.exception.name, "")


if __name__ == "__main__":
    unittest.main()
