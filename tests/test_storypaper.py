"""Point [45]: PAPERs that no STORY of a CASE is cheaper."""

import unittest
from random import Random

from ringdown.errors import BadAway, BadHeard, BadMessage, BadPrices, BadTree
from ringdown.stories import least_story, states_of, story_cost, story_price
from ringdown.storypaper import check_story, story_paper
from tests.allstories import PRICES, SOME_CASES, mixed_cases, story_costs
from tests.alltables import INFINITE, is_paper, numbers_by, tables_hold, tables_sum, with_number, with_thing
from tests.samples import NAMES, OTHER_KINDS, TREE, AlikeToAll, chain, flat, mixed_trees, twofold

FIRST = ("fire", "in", "hall")
BIG = 10 ** 100
CASE = (TREE, ("dan",), PRICES[0], FIRST, (("bob", ("fire",)), ("cid", ())))
# Two below one: what is broken off, and what is left to hand on, can be reckoned by hand.
SMALL = ((2, 0, (("a", "", 1), ("b", "a", 1), ("c", "a", 1))), (), (3, 2, 9, 9, 9, 4), ("x",), (("c", ()),))


class Papers(unittest.TestCase):
    def test_by_hand(self):
        # By STATES (), ("x",): b and c have no ROW; c heard nothing. a by () hands on nothing, by x drops c.
        self.assertEqual(states_of(SMALL), ((), ("x",)))
        story = (("a", ()), ("b", ()), ("c", ()))
        self.assertEqual(story_paper(SMALL), (story, ((0, 3), (0, 0), (0, None))))
        self.assertEqual(story_paper(case=SMALL), story_paper(SMALL))
        other = (("a", ("x",)), ("b", ("x",)), ("c", ()))
        self.assertEqual(story_cost(SMALL, other), 3)
        for each in (story, other):
            self.assertIs(check_story(SMALL, (each, ((0, 3), (0, 0), (0, None)))), True)
            self.assertIs(check_story(case=SMALL, paper=(each, ((0, 3), (0, 0), (0, 0)))), False)
        dear = (("a", ("x",)), ("b", ()), ("c", ()))
        self.assertEqual(story_cost(SMALL, dear), 4)
        self.assertIs(check_story(SMALL, (dear, ((0, 3), (0, 0), (0, None)))), False)

    def test_numbers_where_heard_tells_another_one_are_free(self):
        story = least_story(SMALL)
        # c by x: a number so great that nothing gets cheaper by it may stand there.
        self.assertIs(check_story(SMALL, (story, ((0, 3), (0, 0), (0, 3)))), True)
        self.assertIs(check_story(SMALL, (story, ((0, 3), (0, 0), (0, BIG)))), True)
        self.assertIs(check_story(SMALL, (story, ((0, 2), (0, 0), (0, 2)))), False)

    def test_numbers_that_need_not_be_the_greatest(self):
        story = least_story(SMALL)
        for rows, right in ((((-1, 3), (-1, 0), (0, None)), False), (((0, 3), (-1, 0), (0, None)), False),
                            (((3, 3), (0, 0), (0, None)), False), (((0, 3), (0, 1), (0, None)), False),
                            (((-7, 3), (0, 0), (0, None)), False), (((0, 3), (0, -1), (0, None)), False),
                            (((0, 4), (0, 0), (0, None)), False), (((0, 3), (0, 0), (-1, None)), False),
                            (((0, 3), (0, 0), (0, 9)), True), (((0, 3), (0, 0), (0, 2)), False),
                            (((None, 3), (0, 0), (0, None)), False), (((0, None), (0, 0), (0, None)), False)):
            self.assertIs(is_paper(SMALL, (story, rows)), right, rows)
            self.assertIs(check_story(SMALL, (story, rows)), right, rows)

    def test_told_papers(self):
        for case in SOME_CASES + (CASE, SMALL) + tuple(mixed_cases(4, 40, 201)):
            paper = story_paper(case)
            self.assertIs(check_story(case, paper), True, case)
            self.assertIs(is_paper(case, paper), True, case)
            self.assertEqual(story_cost(case, paper[0]), story_price(case))
            numbers = numbers_by(case, paper[1])
            self.assertEqual(tables_sum(case, numbers), story_price(case))

    def test_each_cheapest_story_is_shown_and_no_other(self):
        for case in SOME_CASES + tuple(mixed_cases(3, 25, 202)):
            rows = story_paper(case)[1]
            costs = story_costs(case)
            for story, cost in costs.items():
                self.assertIs(check_story(case, (story, rows)), cost == min(costs.values()), (case, story))

    def test_kinds(self):
        story, rows = story_paper(CASE)
        self.assertEqual([type(story), type(rows)], [tuple, tuple])
        self.assertEqual([type(row) for row in story + rows], [tuple] * 10)
        self.assertEqual([len(row) for row in rows], [len(states_of(CASE))] * 5)
        self.assertIs(type(check_story(CASE, None)), bool)

    def test_nobody(self):
        for case in SOME_CASES[-2:]:
            self.assertEqual(story_paper(case), ((), ()))
            self.assertIs(check_story(case, ((), ())), True)
            self.assertIs(check_story(case, ((), ((),))), False)

    def test_sixteen(self):
        heard = tuple((name, ("a", name) if at % 3 else ()) for at, name in enumerate(NAMES[:15]))
        for tree in (chain(16), flat(16), twofold(16)) + tuple(mixed_trees(16, 3, 203)):
            for case in ((tree, (), PRICES[5], FIRST, heard), (tree, NAMES[::4], PRICES[0], FIRST, ())):
                paper = story_paper(case)
                self.assertIs(check_story(case, paper), True)
                self.assertIs(check_story(case, (paper[0], paper[1][1:] + paper[1][:1])), paper[1][1:] == paper[1][:-1])


class Spoiled(unittest.TestCase):
    def test_each_number(self):
        seen = {True: 0, False: 0}
        for case in SOME_CASES[:5] + (SMALL,) + tuple(mixed_cases(3, 25, 204)) + tuple(mixed_cases(4, 10, 205)):
            story, rows = story_paper(case)
            for number, row in enumerate(rows):
                for place, worth in enumerate(row):
                    for other in (-1 if worth is None else worth - 1, 5 if worth is None else worth + 1, None, 0):
                        paper = (story, with_number(rows, number, place, other))
                        right = is_paper(case, paper)
                        self.assertIs(check_story(case, paper), right, (case, paper))
                        seen[right] += 1
        self.assertGreater(min(seen.values()), 100)

    def test_several_numbers(self):
        dice = Random(206)
        seen = {True: 0, False: 0}
        for case in SOME_CASES[:5] + tuple(mixed_cases(4, 40, 207)):
            for _ in range(12):
                story, rows = story_paper(case)
                for _ in range(dice.randint(2, 4)):
                    if rows and rows[0]:
                        number, place = dice.randrange(len(rows)), dice.randrange(len(rows[0]))
                        worth = rows[number][place]
                        other = dice.choice((None, -3, 9)) if worth is None else worth + dice.choice((-2, -1, -1, 0, 0, 1))
                        rows = with_number(rows, number, place, other)
                right = is_paper(case, (story, rows))
                self.assertIs(check_story(case, (story, rows)), right, (case, rows))
                seen[right] += 1
        self.assertGreater(min(seen.values()), 50)

    def test_other_things_in_the_place_of_a_number(self):
        story, rows = story_paper(CASE)
        for number, row in enumerate(rows):
            for place in range(len(row)):
                for thing in (True, False, "0", "", 0.0, 1.5, (), (0,), [], {}, AlikeToAll(), b"0"):
                    self.assertIs(check_story(CASE, (story, with_number(rows, number, place, thing))), False)
                for thing in (BIG, -BIG):
                    paper = (story, with_number(rows, number, place, thing))
                    self.assertIs(check_story(CASE, paper), is_paper(CASE, paper))

    def test_a_truth_is_no_number_even_where_it_is_the_same(self):
        story, rows = story_paper(SMALL)
        self.assertEqual(rows[0][0], False)
        self.assertIs(check_story(SMALL, (story, with_number(rows, 0, 0, False))), False)

    def test_rows(self):
        for case in (CASE, SMALL, SOME_CASES[0]):
            story, rows = story_paper(case)
            for number, row in enumerate(rows):
                for thing in (None, (), list(row), row[1:], row[:-1], row + (0,), row + (None,), "abc", BIG, AlikeToAll(),
                              dict.fromkeys(row)):
                    self.assertIs(check_story(case, (story, with_thing(rows, number, thing))), False)
                for other in range(number):
                    spoiled = with_thing(with_thing(rows, number, rows[other]), other, row)
                    self.assertIs(check_story(case, (story, spoiled)), is_paper(case, (story, spoiled)))
            for thing in (list(rows), rows[1:], rows[:-1], rows + rows[-1:], (), None, AlikeToAll(), {}):
                self.assertIs(check_story(case, (story, thing)), False)

    def test_stories(self):
        for case in (CASE, SMALL):
            story, rows = story_paper(case)
            for thing in (list(story), story[1:], story[:-1], story + story[-1:], (), None, dict(story), AlikeToAll(), "a"):
                self.assertIs(check_story(case, (thing, rows)), False)
            for number, row in enumerate(story):
                for thing in (None, list(row), row[:1], row + ((),), (row[0], None), (row[0], list(row[1])),
                              (row[0], AlikeToAll()), (AlikeToAll(), row[1]), AlikeToAll(), ("zoe", row[1]),
                              (row[0], ("other",))):
                    self.assertIs(check_story(case, (with_thing(story, number, thing), rows)), False)
                for state in states_of(case):
                    paper = (with_thing(story, number, (row[0], state)), rows)
                    self.assertIs(check_story(case, paper), is_paper(case, paper))

    def test_no_pair(self):
        paper = story_paper(CASE)
        for thing in OTHER_KINDS + (paper[:1], paper + ((),), list(paper), paper[::-1], AlikeToAll()):
            self.assertIs(check_story(CASE, thing), False)

    def test_papers_of_another_case(self):
        cases = SOME_CASES[:5] + (CASE, SMALL)
        for case in cases:
            for other in cases:
                paper = story_paper(other)
                self.assertIs(check_story(case, paper), is_paper(case, paper))


class Lacking(unittest.TestCase):
    def test_none_is_greater_than_each_number(self):
        # Nobody but c is told by a: c by () may lack no number, by x it may, for HEARD tells another one.
        story, rows = story_paper(SMALL)
        self.assertEqual(rows[2], (0, None))
        self.assertEqual(tables_sum(SMALL, numbers_by(SMALL, ((None, None), (0, 0), (0, None)))), INFINITE)
        self.assertIs(tables_hold(SMALL, numbers_by(SMALL, ((None, None), (0, 0), (0, None)))), False)
        self.assertIs(check_story(SMALL, (story, ((None, None), (0, 0), (0, None)))), False)

    def test_a_row_where_all_lack(self):
        # a heard x: by () it may have any number, or none.
        case = SMALL[:4] + ((("a", ("x",)), ("c", ())),)
        story, rows = story_paper(case)
        self.assertEqual(rows[0], (None, 3))
        for number, right in ((None, True), (3, True), (0, True), (-1, False), (-3, False), (BIG, True)):
            paper = (story, ((number, 3),) + rows[1:])
            self.assertIs(is_paper(case, paper), right)
            self.assertIs(check_story(case, paper), right)


class Refused(unittest.TestCase):
    def test_in_their_order(self):
        bad = [(1, 0, (("a", "", 1), ("a", "", 1))), ("zoe",), (0, 0, 0, 10, 0, 0), ("a", "B"), (("zoe", ()),)]
        good = [TREE, ("dan",), PRICES[0], FIRST, ()]
        for ask in (story_paper, lambda case: check_story(case, None)):
            for thing in OTHER_KINDS + (tuple(good[:4]), tuple(good + [()]), AlikeToAll()):
                with self.assertRaises(BadHeard) as caught:
                    ask(thing)
                self.assertIsNone(caught.exception.number)
            for many, kind in enumerate((BadTree, BadAway, BadPrices, BadMessage, BadHeard)):
                with self.assertRaises(kind):
                    ask(tuple(good[:many] + bad[many:]))


if __name__ == "__main__":
    unittest.main()
