"""Points [40] and [41]: messages, prices, and the steps from one message to another one."""

import unittest
from itertools import product
from random import Random

from ringdown.errors import BadMessage, BadPaper, BadPrices
from ringdown.messages import change_cost, is_message, made_by, need_message, need_prices, steps_of
from tests.samples import HUGE, OTHER_KINDS, AlikeToAll, Thing

# Dropped, overheard, left out, put in, put otherwise, broken off.
PRICES = (1, 2, 3, 4, 5, 6)
ONE = ("fire", "in", "hall")
NO_WORDS = ("", "Fire", "fire ", "abcdefghi", "a1", "a-b", None, True, 0, HUGE, b"fire", ("fire",), ["fire"], Thing(),
            AlikeToAll())
PRICE_KINDS = (PRICES, (0, 0, 0, 0, 0, 0), (9, 9, 9, 9, 9, 9), (0, 0, 1, 1, 9, 0), (0, 0, 9, 9, 1, 0), (5, 5, 0, 7, 3, 5),
               (5, 5, 7, 0, 3, 5), (0, 0, 2, 3, 5, 0), (0, 0, 2, 3, 4, 0), (9, 9, 3, 3, 0, 9))


def all_ways(prices, one, other):
    """(COST, STEPS) of all steps that make the one into the other."""
    if not one and not other:
        yield 0, ()
    if one and other:
        first, cost = (("kept",), 0) if one[0] == other[0] else (("other", other[0]), prices[4])
        for rest, steps in all_ways(prices, one[1:], other[1:]):
            yield cost + rest, (first,) + steps
    if one:
        for rest, steps in all_ways(prices, one[1:], other):
            yield prices[2] + rest, (("left",),) + steps
    if other:
        for rest, steps in all_ways(prices, one, other[1:]):
            yield prices[3] + rest, (("put", other[0]),) + steps


def short_messages(longest):
    for many in range(1, longest + 1):
        yield from product(("a", "b"), repeat=many)


class Messages(unittest.TestCase):
    def test_messages(self):
        for thing in (("a",), ONE, ("abcdefgh",) * 6, ("a", "a")):
            self.assertIs(is_message(thing), True)
            self.assertIsNone(need_message(thing))

    def test_no_tuples_of_so_many(self):
        for thing in OTHER_KINDS + (("a",) * 7, ["a"], "a", {"a"}, AlikeToAll(), (1,) * 7):
            if isinstance(thing, tuple) and 0 < len(thing) < 7:
                continue
            self.assertIs(is_message(thing), False)
            with self.assertRaises(BadMessage) as caught:
                need_message(thing)
            self.assertIsNone(caught.exception.number)

    def test_no_words(self):
        for word in NO_WORDS:
            for number in range(3):
                thing = ("a",) * number + (word,) + ("b",) * (2 - number)
                self.assertIs(is_message(thing), False)
                with self.assertRaises(BadMessage) as caught:
                    need_message(thing)
                self.assertEqual(caught.exception.number, number)
        with self.assertRaises(BadMessage) as caught:
            need_message(("a", "B", 1))
        self.assertEqual(caught.exception.number, 1)


class Prices(unittest.TestCase):
    def test_prices(self):
        for thing in PRICE_KINDS:
            self.assertIsNone(need_prices(thing))

    def test_no_tuples_of_six(self):
        for thing in OTHER_KINDS + ((1,) * 5, (1,) * 7, [1] * 6, "123456", AlikeToAll()):
            with self.assertRaises(BadPrices) as caught:
                need_prices(thing)
            self.assertIsNone(caught.exception.number)

    def test_no_prices(self):
        for thing in (-1, 10, True, False, None, "1", 1.0, (1,), HUGE, -HUGE, AlikeToAll()):
            for number in range(6):
                with self.assertRaises(BadPrices) as caught:
                    need_prices((0,) * number + (thing,) + (9,) * (5 - number))
                self.assertEqual(caught.exception.number, number)
        with self.assertRaises(BadPrices) as caught:
            need_prices((1, 2, 3, 10, 5, -1))
        self.assertEqual(caught.exception.number, 3)


class Changes(unittest.TestCase):
    def test_by_hand(self):
        self.assertEqual(change_cost(PRICES, ONE, ONE), 0)
        self.assertEqual(change_cost(PRICES, ONE, ("fire", "hall")), 3)
        self.assertEqual(change_cost(PRICES, ("fire", "hall"), ONE), 4)
        self.assertEqual(change_cost(PRICES, ONE, ("fire", "at", "hall")), 5)
        self.assertEqual(change_cost(PRICES, ("a",), ("b", "c")), 5 + 4)
        self.assertEqual(change_cost(PRICES, ("a", "b"), ("c",)), 5 + 3)
        # Left out and put in for less than put otherwise.
        self.assertEqual(change_cost((0, 0, 2, 2, 5, 0), ("a",), ("b",)), 4)
        self.assertEqual(change_cost((0, 0, 2, 3, 5, 0), ("a",), ("b",)), 5)
        self.assertEqual(change_cost(prices=PRICES, one=("a",), other=("b",)), 5)

    def test_steps_by_hand(self):
        self.assertEqual(steps_of(PRICES, ONE, ONE), (("kept",),) * 3)
        self.assertEqual(steps_of(PRICES, ONE, ("fire", "hall")), (("kept",), ("left",), ("kept",)))
        self.assertEqual(steps_of(PRICES, ("a",), ("b",)), (("other", "b"),))
        self.assertEqual(steps_of(PRICES, ("a",), ("b", "a")), (("put", "b"), ("kept",)))
        self.assertEqual(steps_of(prices=PRICES, one=("a",), other=("a", "b")), (("kept",), ("put", "b")))
        self.assertIn(steps_of((0, 0, 2, 2, 5, 0), ("a",), ("b",)), ((("left",), ("put", "b")), (("put", "b"), ("left",))))

    def test_held_against_all_ways(self):
        for prices in PRICE_KINDS:
            for one in short_messages(3):
                for other in short_messages(3):
                    self.hold(prices, one, other)
        dice = Random(81)
        for at in range(60):
            one, other = (tuple(dice.choice("abc") for _ in range(dice.randint(1, 4))) for _ in "ab")
            self.hold(PRICE_KINDS[at % len(PRICE_KINDS)], one, other)

    def hold(self, prices, one, other):
        ways = dict((steps, cost) for cost, steps in all_ways(prices, one, other))
        least = min(ways.values())
        self.assertEqual(change_cost(prices, one, other), least, (prices, one, other))
        steps = steps_of(prices, one, other)
        self.assertEqual(ways[steps], least, (prices, one, other, steps))
        self.assertEqual(made_by(prices, one, steps), (other, least))

    def test_of_six_words(self):
        one, other = ("a", "b", "c", "d", "e", "f"), ("g", "h", "i", "j", "k", "l")
        self.assertEqual(change_cost((0, 0, 1, 1, 9, 0), one, other), 12)
        steps = steps_of((0, 0, 1, 1, 9, 0), one, other)
        self.assertEqual(len(steps), 12)
        self.assertEqual(made_by((0, 0, 1, 1, 9, 0), one, steps), (other, 12))
        self.assertEqual(change_cost(PRICES, one, other), 30)
        self.assertEqual(change_cost(PRICES, one, one[1:] + ("g",)), 3 + 4)

    def test_kinds(self):
        self.assertIs(type(change_cost(PRICES, ONE, ("a",))), int)
        steps = steps_of(PRICES, ONE, ("a",))
        self.assertIs(type(steps), tuple)
        for step in steps:
            self.assertIs(type(step), tuple)


class Made(unittest.TestCase):
    def refuse(self, number, message, steps):
        with self.assertRaises(BadPaper) as caught:
            made_by(PRICES, message, steps)
        self.assertEqual(caught.exception.place, number)

    def test_by_hand(self):
        self.assertEqual(made_by(PRICES, ONE, (("kept",), ("left",), ("kept",))), (("fire", "hall"), 3))
        self.assertEqual(made_by(PRICES, ONE, (("left",),) * 3), ((), 9))
        self.assertEqual(made_by(PRICES, ONE, (("other", "a"), ("put", "fire"), ("kept",), ("left",), ("put", "hall"))),
                         (("a", "fire", "in", "hall"), 5 + 4 + 3 + 4))
        self.assertEqual(made_by(prices=PRICES, one=("a",), steps=(("put", "a"), ("other", "b"))), (("a", "b"), 9))
        self.assertEqual(made_by((0,) * 6, ("a",), (("put", "b"),) * 11 + (("kept",),)), (("b",) * 11 + ("a",), 0))

    def test_kinds(self):
        made = made_by(PRICES, ONE, (("left",),) * 3)
        self.assertEqual([type(made), type(made[0]), type(made[1])], [tuple, tuple, int])

    def test_no_tuples_of_so_many(self):
        for thing in OTHER_KINDS + ([("kept",)], "kept", (("put", "a"),) * 12 + (("kept",),), AlikeToAll()):
            if not isinstance(thing, tuple) or len(thing) > 12:
                self.refuse(None, ("a",), thing)

    def test_steps_that_can_not_be(self):
        things = (None, True, 0, "kept", ["kept"], (), ("kept", "a"), ("left", "a"), ("left", None), ("other",), ("put",),
                  ("other", "c", "d"), ("put", "c", "d"), ("keep",), ("Kept",), ("",), (None,), (("kept",),), (["kept"],),
                  (AlikeToAll(),), ("put", AlikeToAll()), AlikeToAll(), HUGE, {"kept": 1}, ("put", ("a",)), (0, "a"))
        things += tuple((kind, word) for kind in ("other", "put") for word in NO_WORDS)
        for thing in things:
            self.refuse(0, ("a", "b"), (thing, ("kept",), ("kept",)))
            self.refuse(1, ("a", "b"), (("kept",), thing, ("kept",)))
            self.refuse(2, ("a", "b"), (("kept",), ("kept",), thing))
            self.refuse(1, ("a", "b"), (("kept",), thing, None))

    def test_steps_that_can_not_go(self):
        for step in (("kept",), ("left",), ("other", "c")):
            self.refuse(1, ("a",), (("kept",), step))
            self.refuse(2, ("a",), (("left",), ("put", "b"), step))
            self.refuse(1, ("a",), (("other", "c"), step, ("put", "b")))
        self.refuse(0, ("a", "b"), (("other", "a"), ("kept",)))
        self.refuse(1, ("a", "b"), (("kept",), ("other", "b")))
        self.refuse(2, ("a", "b"), (("put", "x"), ("kept",), ("other", "b")))
        self.assertEqual(made_by(PRICES, ("a", "b"), (("kept",), ("other", "a")))[0], ("a", "a"))
        # What was put in is no word that is left.
        self.refuse(2, ("a",), (("kept",), ("put", "b"), ("kept",)))

    def test_words_left_over(self):
        self.refuse(0, ("a",), ())
        self.refuse(1, ("a", "b"), (("kept",),))
        self.refuse(2, ("a", "b"), (("kept",), ("put", "b")))
        self.refuse(12, ("a",), (("put", "b"),) * 12)
        self.refuse(5, ("a",) * 6, (("left",),) * 5)


class Refused(unittest.TestCase):
    def test_in_their_order(self):
        for ask in (change_cost, steps_of):
            with self.assertRaises(BadPrices) as caught:
                ask((0, 0, 0, 10, 0, 0), ("A",), ("b", "B"))
            self.assertEqual(caught.exception.number, 3)
            with self.assertRaises(BadMessage) as caught:
                ask(PRICES, ("A",), ("b", "B"))
            self.assertEqual(caught.exception.number, 0)
            with self.assertRaises(BadMessage) as caught:
                ask(PRICES, ("a",), ("b", "B"))
            self.assertEqual(caught.exception.number, 1)
        with self.assertRaises(BadPrices):
            made_by((0,) * 5, ("A",), None)
        with self.assertRaises(BadMessage):
            made_by(PRICES, ("A",), None)
        with self.assertRaises(BadPaper):
            made_by(PRICES, ("a",), None)

    def test_of_anything(self):
        for thing in OTHER_KINDS:
            for ask in (change_cost, steps_of):
                with self.assertRaises(BadPrices):
                    ask(thing, ONE, ONE)
                with self.assertRaises(BadMessage):
                    ask(PRICES, thing, ONE)
                with self.assertRaises(BadMessage):
                    ask(PRICES, ONE, thing)
            with self.assertRaises(BadPrices):
                made_by(thing, ONE, ())
            with self.assertRaises(BadMessage):
                made_by(PRICES, thing, ())
            with self.assertRaises(BadPaper):
                made_by(PRICES, ONE, thing)
        # A message of none is no message, though a story may tell of nothing heard.
        with self.assertRaises(BadMessage) as caught:
            change_cost(PRICES, (), ONE)
        self.assertIsNone(caught.exception.number)


if __name__ == "__main__":
    unittest.main()
