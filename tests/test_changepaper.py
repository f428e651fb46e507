"""Point [42]: PAPERs of a CHANGE."""

import unittest
from random import Random

from ringdown.changepaper import change_paper, check_change
from ringdown.errors import BadMessage, BadPrices
from ringdown.messages import change_cost, made_by, steps_of
from tests.samples import HUGE, OTHER_KINDS, AlikeToAll
from tests.test_messages import PRICE_KINDS, PRICES, all_ways, short_messages

ONE = ("a", "b", "c")
OTHER = ("a", "c", "d", "d")


def as_told(prices, one, other, rows):
    """Whether whole numbers in rows of the right size are POTENTIALS, but for the last one."""
    if rows[0][0] != 0:
        return False
    for at, row in enumerate(rows):
        for place, number in enumerate(row):
            bounds = []
            if at:
                bounds.append(rows[at - 1][place] + prices[2])
            if place:
                bounds.append(row[place - 1] + prices[3])
            if at and place:
                bounds.append(rows[at - 1][place - 1] + (prices[4] if one[at - 1] != other[place - 1] else 0))
            if any(number > bound for bound in bounds):
                return False
    return True


def with_number(rows, at, place, thing):
    row = rows[at][:place] + (thing,) + rows[at][place + 1:]
    return rows[:at] + (row,) + rows[at + 1:]


class Papers(unittest.TestCase):
    def test_by_hand(self):
        self.assertEqual(change_paper(PRICES, ("a",), ("a",)), ((("kept",),), ((0, 4), (3, 0))))
        self.assertEqual(change_paper(PRICES, ("a",), ("b",)), ((("other", "b"),), ((0, 4), (3, 5))))
        paper = (((("kept",), ("put", "b"))), ((0, 4, 8), (3, 0, 4)))
        self.assertIs(check_change(PRICES, ("a",), ("a", "b"), paper), True)
        self.assertIs(check_change(prices=PRICES, one=("a",), other=("a", "b"), paper=paper), True)
        # Other steps, and a number of steps that cost more, aren't held.
        self.assertIs(check_change(PRICES, ("a",), ("a", "b"), ((("put", "a"), ("other", "b")), paper[1])), False)

    def test_told_papers(self):
        for prices in PRICE_KINDS:
            for one in list(short_messages(4))[::3] + [ONE]:
                for other in list(short_messages(4))[::4] + [OTHER]:
                    paper = change_paper(prices, one, other)
                    self.assertIs(check_change(prices, one, other, paper), True)
                    steps, rows = paper
                    self.assertEqual(made_by(prices, one, steps), (other, change_cost(prices, one, other)))
                    self.assertEqual(rows[-1][-1], change_cost(prices, one, other))
                    self.assertEqual(change_paper(prices=prices, one=one, other=other), paper)

    def test_kinds(self):
        steps, rows = change_paper(PRICES, ONE, OTHER)
        self.assertEqual([type(steps), type(rows)], [tuple, tuple])
        self.assertEqual([type(row) for row in rows], [tuple] * 4)
        self.assertEqual([len(row) for row in rows], [5] * 4)

    def test_of_six_words(self):
        one, other = ("a", "b", "c", "d", "e", "f"), ("g", "h", "i", "j", "k", "l")
        for prices in PRICE_KINDS:
            self.assertIs(check_change(prices, one, other, change_paper(prices, one, other)), True)

    def test_each_cheapest_way_is_shown(self):
        for prices in PRICE_KINDS:
            rows = change_paper(prices, ("a", "b"), ("b", "c"))[1]
            for cost, steps in all_ways(prices, ("a", "b"), ("b", "c")):
                right = cost == change_cost(prices, ("a", "b"), ("b", "c"))
                self.assertIs(check_change(prices, ("a", "b"), ("b", "c"), (steps, rows)), right)

    def test_numbers_below_nought(self):
        steps = steps_of(PRICES, ("a",), ("b", "a"))
        self.assertEqual(made_by(PRICES, ("a",), steps)[1], 4)
        for rows, right in (
            (((0, 4, 1), (-4, 0, 4)), True), (((0, 4, 8), (3, 5, 4)), True), (((0, 4, 1), (-5, 0, 4)), False),
            (((0, 4, 1), (-5, -1, 4)), False), (((0, 4, 0), (-4, 0, 4)), False), (((0, 4, 1), (-HUGE, 0, 4)), False),
            (((0, 4, -50), (-7, -3, -47)), False), (((0, 4, 1), (0, 5, 4)), False),
        ):
            self.assertIs(check_change(PRICES, ("a",), ("b", "a"), (steps, rows)), right, rows)

    def test_other_numbers(self):
        dice = Random(91)
        let_by = 0
        for at in range(400):
            prices = PRICE_KINDS[at % len(PRICE_KINDS)]
            one, other = (tuple(dice.choice("abc") for _ in range(dice.randint(1, 3))) for _ in "ab")
            steps, rows = change_paper(prices, one, other)
            for _ in range(dice.randint(1, 2)):
                number, place = dice.randrange(len(rows)), dice.randrange(len(rows[0]))
                rows = with_number(rows, number, place, rows[number][place] + dice.choice((-9, -3, -1, -1, 1, 2)))
            right = as_told(prices, one, other, rows) and rows[-1][-1] == change_cost(prices, one, other)
            self.assertIs(check_change(prices, one, other, (steps, rows)), right, (prices, one, other, rows))
            let_by += right
        self.assertGreater(let_by, 20)


class Spoiled(unittest.TestCase):
    def setUp(self):
        self.steps, self.rows = change_paper(PRICES, ONE, OTHER)

    def refuse(self, *paper):
        self.assertIs(check_change(PRICES, ONE, OTHER, paper), False, paper)

    def test_no_pair(self):
        for thing in OTHER_KINDS + ((self.steps,), (self.steps, self.rows, ()), [self.steps, self.rows], AlikeToAll()):
            self.assertIs(check_change(PRICES, ONE, OTHER, thing), False)

    def test_steps(self):
        for thing in OTHER_KINDS + (list(self.steps), self.steps[1:], self.steps[:-1], self.steps + (("put", "d"),),
                                    AlikeToAll(), (AlikeToAll(),), (("left",),) * 3):
            self.refuse(thing, self.rows)
        for number in range(len(self.steps)):
            for thing in (None, ("kept",), ("left",), ("put", "z"), ("other", "z"), list(self.steps[number]), AlikeToAll()):
                if thing != self.steps[number]:
                    self.refuse(self.steps[:number] + (thing,) + self.steps[number + 1:], self.rows)

    def test_steps_of_another_cost(self):
        dearer = (("left",), ("left",), ("left",)) + tuple(("put", word) for word in OTHER)
        self.assertEqual(made_by(PRICES, ONE, dearer)[0], OTHER)
        self.refuse(dearer, self.rows)
        # Even where the last number is what they cost.
        self.refuse(dearer, with_number(self.rows, 3, 4, made_by(PRICES, ONE, dearer)[1]))

    def test_rows(self):
        for thing in OTHER_KINDS + (list(self.rows), self.rows[1:], self.rows[:-1], self.rows + self.rows[-1:], AlikeToAll()):
            self.refuse(self.steps, thing)
        for number, row in enumerate(self.rows):
            for thing in (None, (), list(row), row[1:], row[:-1], row + (0,), "ab", HUGE, AlikeToAll()):
                self.refuse(self.steps, self.rows[:number] + (thing,) + self.rows[number + 1:])

    def test_numbers(self):
        for number, row in enumerate(self.rows):
            for place in range(len(row)):
                for thing in (None, True, False, "0", 0.0, (0,), HUGE, AlikeToAll(), row[place] + 1, float(row[place])):
                    self.refuse(self.steps, with_number(self.rows, number, place, thing))

    def test_the_first_and_the_last_number(self):
        for thing in (-1, 1, False):
            self.refuse(self.steps, with_number(self.rows, 0, 0, thing))
        last = self.rows[-1][-1]
        for thing in (last - 1, last + 1, -HUGE):
            self.refuse(self.steps, with_number(self.rows, 3, 4, thing))
        lower = tuple(tuple(number - 1 for number in row) for row in self.rows)
        self.refuse(self.steps, lower)


class Refused(unittest.TestCase):
    def test_in_their_order(self):
        for ask in (change_paper, lambda prices, one, other: check_change(prices, one, other, None)):
            with self.assertRaises(BadPrices) as caught:
                ask((0, 0, 0, 10, 0, 0), ("A",), ("b", "B"))
            self.assertEqual(caught.exception.number, 3)
            with self.assertRaises(BadMessage) as caught:
                ask(PRICES, ("A",), ("b", "B"))
            self.assertEqual(caught.exception.number, 0)
            with self.assertRaises(BadMessage) as caught:
                ask(PRICES, ("a",), ("b", "B"))
            self.assertEqual(caught.exception.number, 1)
            for thing in OTHER_KINDS:
                with self.assertRaises(BadPrices):
                    ask(thing, ONE, ONE)
                with self.assertRaises(BadMessage):
                    ask(PRICES, thing, ONE)
                with self.assertRaises(BadMessage):
                    ask(PRICES, ONE, thing)


if __name__ == "__main__":
    unittest.main()
