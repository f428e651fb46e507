"""Points [50] to [53] and [56]: ringings minute by minute, and all that they tell."""

import unittest

from ringdown.errors import BadAway, BadTree
from ringdown.ringing import Ringing
from ringdown.rings import ring_calls, told_rows
from tests.ringmodel import Model, all_asked, all_told
from tests.samples import EMPTY, HUGE, OTHER_KINDS, TREE, AlikeToAll, chain, flat, mixed_trees, small_trees, subsets
from tests.samples import twofold, with_deep

# bell: ann 3, bob 5; ann: cid 4, dan 5. Nobody answers: 2.
HOUSE = (2, 0, (("ann", "", 3), ("bob", "", 5), ("cid", "ann", 4), ("dan", "ann", 5)))
NAMES = ("ann", "bob", "cid", "dan")


def rung(tree=HOUSE, away=None, happening="fire"):
    ringing = Ringing(tree, away)
    ringing.ring(happening)
    return ringing


def words(ringing, happening="fire", names=NAMES):
    return [ringing.standing(happening, name) for name in names]


class OneHappening(unittest.TestCase):
    def test_minute_by_minute(self):
        ringing = rung()
        self.assertEqual((ringing.now(), ringing.happenings(), ringing.is_quiet()), (0, [(0, "fire")], False))
        self.assertEqual(words(ringing), ["in line", "in line", "waiting", "waiting"])
        self.assertEqual(ringing.line(), [("fire", "ann"), ("fire", "bob")])
        self.assertEqual(ringing.going(), [])
        self.assertEqual(ringing.go(), 1)
        self.assertEqual(words(ringing), ["called", "in line", "waiting", "waiting"])
        self.assertEqual(ringing.going(), [(0, 3, "", "ann", True, "fire")])
        self.assertEqual((ringing.line(), ringing.calls(), len(ringing)), ([("fire", "bob")], [], 0))
        self.assertEqual(ringing.go(1), 2)
        self.assertEqual(words(ringing), ["called", "in line", "waiting", "waiting"])
        self.assertEqual(ringing.go(minutes=1), 3)
        # Behind the END of 3, and ahead of the beginnings.
        self.assertEqual(words(ringing), ["told", "in line", "in line", "in line"])
        self.assertEqual((ringing.line(), ringing.line("ann")), ([("fire", "bob")], [("fire", "cid"), ("fire", "dan")]))
        self.assertEqual((ringing.going(), len(ringing)), ([], 1))
        self.assertEqual(ringing.go(4), 7)
        self.assertEqual(ringing.going(), [(3, 8, "", "bob", True, "fire")])
        self.assertEqual(words(ringing), ["told", "called", "told", "in line"])
        self.assertEqual(ringing.go(), 8)
        self.assertEqual(ringing.going(), [(7, 12, "ann", "dan", True, "fire")])
        self.assertEqual(ringing.told("fire"), [(3, "ann"), (7, "cid"), (8, "bob")])
        self.assertIs(ringing.is_quiet(), False)
        self.assertEqual(ringing.till_quiet(), 12)
        self.assertIs(ringing.is_quiet(), True)
        self.assertEqual(words(ringing), ["told"] * 4)
        self.assertEqual(ringing.calls(), [(0, 3, "", "ann", True, "fire"), (3, 7, "ann", "cid", True, "fire"),
                                           (3, 8, "", "bob", True, "fire"), (7, 12, "ann", "dan", True, "fire")])
        self.assertEqual((ringing.now(), ringing.till_quiet(), len(ringing)), (12, 12, 4))
        self.assertEqual(ringing.go(5), 17)

    def test_not_answered(self):
        ringing = rung(away=("ann",))
        ringing.go()
        self.assertEqual(ringing.going(), [(0, 2, "", "ann", False, "fire")])
        self.assertEqual(words(ringing), ["called", "in line", "waiting", "waiting"])
        ringing.go()
        self.assertEqual(words(ringing), ["missed", "in line", "in line", "in line"])
        # To the front of the caller's LINE.
        self.assertEqual(ringing.line(), [("fire", "cid"), ("fire", "dan"), ("fire", "bob")])
        self.assertEqual((ringing.missed("fire"), ringing.told("fire")), (["ann"], []))
        self.assertEqual(ringing.till_quiet(), 16)
        self.assertEqual(ringing.calls(), [(0, 2, "", "ann", False, "fire"), (2, 6, "", "cid", True, "fire"),
                                           (6, 11, "", "dan", True, "fire"), (11, 16, "", "bob", True, "fire")])
        self.assertEqual((ringing.missed("fire"), len(ringing)), (["ann"], 4))

    def test_a_callee_that_comes_back_while_the_phone_rings(self):
        ringing = rung(away=("ann",))
        ringing.go()
        ringing.come_back("ann")
        self.assertEqual(ringing.going(), [(0, 2, "", "ann", False, "fire")])
        self.assertEqual(words(ringing)[0], "called")
        ringing.go()
        # The LIST to the front, the callee to the end.
        self.assertEqual(ringing.line(), [("fire", "cid"), ("fire", "dan"), ("fire", "bob"), ("fire", "ann")])
        self.assertEqual((words(ringing)[0], ringing.missed("fire")), ("in line", []))
        self.assertEqual(ringing.till_quiet(), 19)
        self.assertEqual(ringing.told("fire"), [(6, "cid"), (11, "dan"), (16, "bob"), (19, "ann")])
        self.assertEqual(ringing.chain("fire", "ann"), [(0, ""), (19, "ann")])

    def test_ends_of_one_minute_by_callers_rising(self):
        tree = (1, 0, (("zoe", "", 1), ("bob", "", 4), ("ann", "zoe", 4), ("cid", "bob", 2), ("eve", "zoe", 1)))
        ringing = rung(tree)
        ringing.go(5)
        # Both at 5: the BELL's call ends ahead of zoe's.
        self.assertEqual(ringing.told("fire"), [(1, "zoe"), (5, "bob"), (5, "ann")])
        self.assertEqual([call[2:4] for call in ringing.calls()], [("", "zoe"), ("", "bob"), ("zoe", "ann")])
        tree = (1, 0, (("zoe", "", 1), ("bob", "", 1), ("ann", "zoe", 3), ("cid", "bob", 2)))
        ringing = rung(tree)
        ringing.go(4)
        self.assertEqual(ringing.told("fire"), [(1, "zoe"), (2, "bob"), (4, "cid"), (4, "ann")])
        self.assertEqual(ringing.going(), [])

    def test_going_by_callers_rising(self):
        tree = (1, 0, (("zoe", "", 1), ("bob", "", 1), ("cid", "", 9), ("ann", "zoe", 9), ("dan", "bob", 9)))
        ringing = rung(tree)
        ringing.go(3)
        self.assertEqual(ringing.going(), [(2, 11, "", "cid", True, "fire"), (2, 11, "bob", "dan", True, "fire"),
                                           (1, 10, "zoe", "ann", True, "fire")])

    def test_rung_later(self):
        ringing = Ringing(HOUSE)
        self.assertEqual((ringing.is_quiet(), ringing.till_quiet(), ringing.go(7)), (True, 0, 7))
        ringing.ring("fire")
        self.assertEqual(ringing.happenings(), [(7, "fire")])
        ringing.till_quiet()
        self.assertEqual(ringing.told("fire"), [(10, "ann"), (14, "cid"), (15, "bob"), (19, "dan")])
        self.assertEqual(ringing.chain("fire", "dan"), [(7, ""), (10, "ann"), (19, "dan")])

    def test_nobody(self):
        for ringing in (Ringing(), Ringing(None, None), Ringing(tree=None, away=()), Ringing(EMPTY)):
            self.assertEqual((ringing.tree(), ringing.away(), ringing.now()), (EMPTY, (), 0))
            self.assertEqual(ringing.first(), (EMPTY, ()))
            ringing.ring("fire")
            self.assertEqual((ringing.is_quiet(), ringing.till_quiet()), (True, 0))
            self.assertEqual((ringing.told("fire"), ringing.missed("fire"), ringing.forecast("fire")), ([], [], []))

    def test_as_the_ring_of_the_tree_tells(self):
        for tree in list(small_trees(4))[::15] + list(mixed_trees(8, 40, 401)):
            self.as_a_ring(with_deep(0, tree))

    def as_a_ring(self, tree):
        for away in list(subsets([row[0] for row in tree[2]]))[::3]:
            ringing = rung(tree, away)
            ringing.till_quiet()
            self.assertEqual(sorted(ringing.told("fire")), told_rows(tree, away))
            self.assertEqual(sorted(call[:5] for call in ringing.calls()), sorted(ring_calls(tree, away)))
            self.assertTrue(all(call[5] == "fire" for call in ringing.calls()))

    def test_trees_of_sixteen(self):
        for tree in (chain(16), flat(16), twofold(16)) + tuple(with_deep(0, tree) for tree in mixed_trees(16, 4, 402)):
            away = tuple(sorted(row[0] for row in tree[2]))[::5]
            ringing = rung(tree, away)
            ringing.till_quiet()
            self.assertEqual(sorted(ringing.told("fire")), told_rows(tree, away))


class SeveralHappenings(unittest.TestCase):
    def test_on_the_same_phones(self):
        ringing = rung()
        ringing.go()
        ringing.ring("flood")
        self.assertEqual(ringing.line(), [("fire", "bob"), ("flood", "ann"), ("flood", "bob")])
        self.assertEqual(words(ringing, "flood"), ["in line", "in line", "waiting", "waiting"])
        self.assertEqual(words(ringing, "fire"), ["called", "in line", "waiting", "waiting"])
        ringing.go(7)
        # At 8 ann calls dan: the BELL goes past her, and calls bob of the flood.
        self.assertEqual((ringing.now(), ringing.line()), (8, [("flood", "ann"), ("flood", "bob")]))
        ringing.go()
        self.assertEqual(ringing.going(), [(8, 13, "", "bob", True, "flood"), (7, 12, "ann", "dan", True, "fire")])
        self.assertEqual(ringing.line(), [("flood", "ann")])
        self.assertEqual(ringing.till_quiet(), 25)
        self.assertEqual(ringing.told("fire"), [(3, "ann"), (7, "cid"), (8, "bob"), (12, "dan")])
        self.assertEqual(ringing.told("flood"), [(13, "bob"), (16, "ann"), (20, "cid"), (25, "dan")])
        self.assertEqual(ringing.chain("flood", "dan"), [(1, ""), (16, "ann"), (25, "dan")])
        self.assertEqual(str(ringing), "0:25 fire 4 flood 4")

    def test_an_away_ones_phone_is_one_phone(self):
        # The BELL rings at zoe's of the flood; bob, who has her in his LINE of the fire, waits for that.
        tree = (4, 0, (("bob", "", 1), ("zoe", "bob", 1)))
        ringing = rung(tree, ("zoe",))
        ringing.go()
        self.assertEqual(ringing.line("bob"), [("fire", "zoe")])
        ringing.move("zoe", "")
        ringing.ring("flood")
        # Of the fire she was never called: so she came to the end of the BELL's LINE.
        self.assertEqual(ringing.line("bob"), [])
        self.assertEqual(ringing.line(), [("fire", "zoe"), ("flood", "bob"), ("flood", "zoe")])
        ringing.go(4)
        self.assertEqual(ringing.calls()[1:], [(1, 5, "", "zoe", False, "fire")])
        ringing.till_quiet()
        self.assertEqual(ringing.calls()[2:], [(5, 6, "", "bob", True, "flood"), (6, 10, "", "zoe", False, "flood")])

    def test_two_who_want_the_same_one(self):
        # zoe stands under bob of the fire, under the BELL when the flood is rung.
        tree = (4, 0, (("bob", "", 1), ("cid", "", 2), ("zoe", "bob", 6)))
        ringing = rung(tree)
        ringing.go(2)
        self.assertEqual(ringing.going(), [(1, 3, "", "cid", True, "fire"), (1, 7, "bob", "zoe", True, "fire")])
        ringing.move("zoe", "", 0)
        ringing.ring("flood")
        self.assertEqual(ringing.line(), [("flood", "zoe"), ("flood", "bob"), ("flood", "cid")])
        ringing.go(2)
        # zoe and bob are on a phone.
        self.assertEqual(ringing.going(), [(3, 5, "", "cid", True, "flood"), (1, 7, "bob", "zoe", True, "fire")])
        ringing.go(4)
        self.assertEqual(ringing.going(), [(7, 13, "", "zoe", True, "flood")])
        self.assertEqual(ringing.till_quiet(), 14)
        self.assertEqual(ringing.told("flood"), [(5, "cid"), (13, "zoe"), (14, "bob")])

    def test_who_is_called_calls_nobody_meanwhile(self):
        tree = (1, 0, (("ann", "", 2), ("bob", "ann", 3)))
        ringing = rung(tree)
        ringing.go(1)
        ringing.ring("flood")
        ringing.go(1)
        # At 2 the BELL goes first: it calls ann again, who has bob in her LINE.
        self.assertEqual(ringing.line("ann"), [("fire", "bob")])
        ringing.go(1)
        self.assertEqual(ringing.going(), [(2, 4, "", "ann", True, "flood")])
        ringing.till_quiet()
        self.assertEqual(ringing.calls()[2:], [(4, 7, "ann", "bob", True, "fire"), (7, 10, "ann", "bob", True, "flood")])

    def test_missed_ones_lists_go_ahead_of_other_happenings(self):
        tree = (1, 0, (("ann", "", 2), ("bob", "ann", 3)))
        ringing = Ringing(tree, ("ann",))
        ringing.ring("fire")
        ringing.ring("flood")
        ringing.go(1)
        self.assertEqual(ringing.line(), [("fire", "bob"), ("flood", "ann")])
        ringing.go(3)
        self.assertEqual(ringing.line(), [("flood", "ann")])
        ringing.go(1)
        self.assertEqual(ringing.line(), [("flood", "bob")])

    def test_six(self):
        ringing = Ringing(flat(3, talk=2))
        for word in ("f", "e", "d", "c", "b", "a"):
            ringing.ring(word)
            ringing.go()
        self.assertEqual([row[1] for row in ringing.happenings()], ["f", "e", "d", "c", "b", "a"])
        ringing.till_quiet()
        self.assertEqual(len(ringing), 18)
        self.assertEqual(str(ringing), "0:36 f 3 e 3 d 3 c 3 b 3 a 3")


class Told(unittest.TestCase):
    def test_texts(self):
        self.assertEqual([str(Ringing()), repr(Ringing(HOUSE))], ["0:00", "0:00"])
        ringing = rung()
        ringing.go(61)
        ringing.ring("flood")
        ringing.go(8)
        self.assertEqual([str(ringing), repr(ringing)], ["1:09 fire 4 flood 3"] * 2)
        # Only those in the TREE are counted.
        ringing.leave("cid")
        self.assertEqual(str(ringing), "1:09 fire 3 flood 2")
        self.assertEqual(ringing.told("flood"), [(64, "ann"), (68, "cid"), (69, "bob")])

    def test_chains(self):
        ringing = rung(chain(5), ())
        ringing.till_quiet()
        self.assertEqual(ringing.chain("fire", "dd"), [(0, ""), (3, "aa"), (6, "bb"), (9, "cc"), (12, "dd")])
        self.assertEqual(ringing.chain(happening="fire", name="aa"), [(0, ""), (3, "aa")])
        ringing = rung(chain(5), ("bb", "ee"))
        ringing.till_quiet()
        self.assertEqual(ringing.chain("fire", "dd"), [(0, ""), (3, "aa"), (8, "cc"), (11, "dd")])
        self.assertEqual([ringing.chain("fire", name) for name in ("bb", "ee")], [[], []])

    def test_by_names_of_arguments(self):
        ringing = Ringing(tree=HOUSE, away=("bob",))
        ringing.ring(happening="fire")
        ringing.join(name="new", caller="ann", talk=2, place=0)
        ringing.move(name="new", caller="bob", place=0)
        ringing.move(name="new", caller="ann")
        ringing.set_talk(name="new", talk=1)
        ringing.set_wait(wait=3)
        ringing.come_back(name="bob")
        ringing.go_away(name="bob")
        ringing.leave(name="new")
        ringing.go(minutes=3)
        self.assertEqual(ringing.standing(happening="fire", name="ann"), "told")
        self.assertEqual(ringing.told(happening="fire"), [(3, "ann")])
        self.assertEqual(ringing.missed(happening="fire"), [])
        self.assertEqual(ringing.line(name="ann"), [("fire", "cid"), ("fire", "dan")])
        self.assertEqual(ringing.forecast(happening="fire"), [(3, "ann"), (7, "cid"), (12, "dan")])
        self.assertEqual(len(ringing.deeds()), 9)

    def test_the_tree_in_walk_order_and_as_handed_in(self):
        ringing = Ringing(TREE, ("bob", "eve"))
        self.assertEqual([row[0] for row in ringing.tree()[2]], ["ann", "cid", "eve", "dan", "bob", "fay"])
        self.assertEqual(ringing.first(), (TREE, ("bob", "eve")))
        self.assertEqual(ringing.away(), ("bob", "eve"))
        ringing.come_back("bob")
        ringing.go_away("ann")
        ringing.set_wait(9)
        self.assertEqual((ringing.first(), ringing.away(), ringing.tree()[0]), ((TREE, ("bob", "eve")), ("ann", "eve"), 9))

    def test_kinds(self):
        ringing = rung(away=("dan",))
        ringing.go(9)
        for told in (ringing.happenings(), ringing.told("fire"), ringing.missed("fire"), ringing.line(), ringing.going(),
                     ringing.calls(), ringing.chain("fire", "cid"), ringing.forecast("fire"), ringing.deeds()):
            self.assertIs(type(told), list)
        for told in (ringing.happenings(), ringing.told("fire"), ringing.calls(), ringing.chain("fire", "cid"),
                     ringing.deeds()):
            self.assertEqual({type(row) for row in told}, {tuple})
        for told in (ringing.tree(), ringing.away(), ringing.first()):
            self.assertIs(type(told), tuple)
        self.assertIs(type(ringing.is_quiet()), bool)
        self.assertIs(type(ringing.calls()[0][4]), bool)
        self.assertIsNone(ringing.ring("flood"))
        for deed in (lambda: ringing.join("new", "", 3), lambda: ringing.move("new", "bob"), lambda: ringing.leave("new"),
                     lambda: ringing.set_talk("bob", 3), lambda: ringing.set_wait(3), lambda: ringing.come_back("dan"),
                     lambda: ringing.go_away("dan")):
            self.assertIsNone(deed())

    def test_deeds(self):
        ringing = Ringing(HOUSE)
        ringing.ring("fire")
        ringing.go(2)
        ringing.join("new", "", 3)
        ringing.join("newer", "ann", 4, 1)
        ringing.move("new", "ann")
        ringing.move("new", "ann", None)
        ringing.move("bob", "", 0)
        ringing.go(3)
        ringing.set_talk("bob", 9)
        ringing.set_wait(5)
        ringing.go_away("dan")
        ringing.come_back("dan")
        ringing.leave("newer")
        self.assertEqual(ringing.deeds(), [
            (0, "ring", "fire"), (2, "join", "new", "", 3, 2), (2, "join", "newer", "ann", 4, 1),
            (2, "move", "new", "ann", 3), (2, "move", "new", "ann", 3), (2, "move", "bob", "", 0),
            (5, "set_talk", "bob", 9), (5, "set_wait", 5), (5, "go_away", "dan"), (5, "come_back", "dan"),
            (5, "leave", "newer")])


class Quiet(unittest.TestCase):
    def test_forecast_tells_what_comes_and_changes_nothing(self):
        for tree in list(mixed_trees(6, 20, 403)):
            ringing = rung(with_deep(0, tree), (tree[2][1][0],))
            ringing.go(2)
            ringing.ring("flood")
            ringing.go(3)
            kept = all_asked(ringing)
            told = [ringing.forecast("fire"), ringing.forecast("flood")]
            self.assertEqual(all_asked(ringing), kept)
            ringing.till_quiet()
            self.assertEqual([ringing.told("fire"), ringing.told("flood")], told)
            self.assertEqual([ringing.forecast("fire"), ringing.forecast("flood")], told)

    def test_forecast_however_late(self):
        ringing = Ringing(flat(3, talk=60))
        ringing.go(5990)
        ringing.ring("fire")
        self.assertEqual(ringing.forecast("fire"), [(6050, "aa"), (6110, "bb"), (6170, "cc")])
        ringing.go(9)
        self.assertEqual(ringing.forecast("fire"), [(6050, "aa"), (6110, "bb"), (6170, "cc")])
        self.assertEqual((ringing.now(), str(ringing)), (5999, "99:59 fire 0"))

    def test_each_who_is_there_is_told_by_one_call(self):
        ringing = rung(away=("ann", "dan"))
        ringing.go(3)
        ringing.come_back("ann")
        ringing.till_quiet()
        ringing.come_back("dan")
        ringing.till_quiet()
        self.assertEqual(sorted(row[1] for row in ringing.told("fire")), list(NAMES))
        self.assertEqual(sorted(call[3] for call in ringing.calls() if call[4]), list(NAMES))

    def test_copies(self):
        ringing = rung(away=("bob",))
        ringing.go(4)
        other = ringing.copied()
        self.assertEqual((other, other.deeds(), other.first()), (ringing, ringing.deeds(), ringing.first()))
        self.assertEqual(all_asked(other), all_asked(ringing))
        kept = all_asked(ringing)
        for one in (ringing, other):
            self.assertIs(type(one), Ringing)
        other.ring("flood")
        other.leave("dan")
        other.till_quiet()
        self.assertEqual(all_asked(ringing), kept)
        self.assertEqual(len(ringing.deeds()), 1)
        third = ringing.copied()
        ringing.go()
        ringing.come_back("bob")
        ringing.set_wait(60)
        ringing.join("new", "ann", 3)
        self.assertEqual(all_asked(third), kept)
        self.assertNotEqual(third, ringing)

    def test_what_was_never_rung_or_there_is_copied_too(self):
        ringing = rung()
        ringing.leave("dan")
        ringing.till_quiet()
        other = ringing.copied()
        self.assertEqual(other.chain("fire", "dan"), [])
        with self.assertRaises(ValueError):
            other.join("dan", "", 3)


class Alike(unittest.TestCase):
    def test_the_same(self):
        one, other = rung(), rung()
        self.assertIs(one == other, True)
        self.assertIs(one != other, False)
        one.go(5)
        self.assertIs(one == other, False)
        self.assertIs(one != other, True)
        for _ in range(5):
            other.go()
        self.assertIs(one == other, True)
        # Neither deeds nor the first TREE are looked at.
        one.set_wait(9)
        one.set_wait(2)
        self.assertIs(one == other, True)
        walked = Ringing(TREE)
        self.assertEqual(walked, Ringing(walked.tree()))
        self.assertNotEqual(walked.first(), Ringing(walked.tree()).first())

    def test_each_thing_that_is_looked_at(self):
        def made(*deeds):
            ringing = rung(away=("bob",))
            for deed in deeds:
                deed(ringing)
            return ringing
        cases = [
            made(), made(lambda one: one.go()), made(lambda one: one.set_wait(3)), made(lambda one: one.set_talk("ann", 4)),
            made(lambda one: one.come_back("bob")), made(lambda one: one.ring("flood")),
            made(lambda one: one.move("cid", "ann")), made(lambda one: one.leave("dan")), made(lambda one: one.go(4)),
            made(lambda one: one.move("bob", "")),
            made(lambda one: one.move("bob", ""), lambda one: one.move("ann", "")),
            made(lambda one: one.go(5), lambda one: one.move("cid", "ann")),
        ]
        for at, one in enumerate(cases):
            for place, other in enumerate(cases):
                # bob, the last one of the BELL's LIST, goes to the end of its LINE, where he stood.
                alike = at == place or {at, place} == {0, 9}
                self.assertIs(one == other, alike, (at, place))

    def test_calls_that_go_on_till_another_minute(self):
        one, other = Ringing(HOUSE), Ringing(HOUSE)
        one.set_talk("ann", 9)
        for ringing in (one, other):
            ringing.ring("fire")
            ringing.go(2)
        one.set_talk("ann", 3)
        self.assertEqual((one.tree(), one.calls(), words(one)), (other.tree(), other.calls(), words(other)))
        self.assertNotEqual(one.going(), other.going())
        self.assertIs(one == other, False)

    def test_calls_that_ended_at_another_minute(self):
        one, other = Ringing(HOUSE), Ringing(HOUSE)
        one.set_talk("ann", 9)
        for ringing in (one, other):
            ringing.ring("fire")
            ringing.go(30)
        one.set_talk("ann", 3)
        self.assertEqual((one.tree(), one.going(), words(one)), (other.tree(), other.going(), words(other)))
        self.assertIs(one == other, False)

    def test_one_who_left_and_one_who_never_was_there(self):
        one, other = Ringing((2, 0, HOUSE[2] + (("new", "dan", 3),)), ("new",)), Ringing(HOUSE)
        for ringing in (one, other):
            ringing.ring("fire")
            ringing.go(4)
        self.assertIs(one == other, False)
        one.leave("new")
        self.assertIs(one == other, True)

    def test_the_order_of_the_happenings(self):
        one, other = Ringing(EMPTY), Ringing(EMPTY)
        for word, last in (("a", "b"), ("b", "a")):
            one.ring(word)
            other.ring(last)
        self.assertIs(one == other, False)

    def test_when_it_was_rung(self):
        one, other = Ringing(EMPTY), Ringing(EMPTY)
        one.ring("a")
        one.go()
        other.go()
        other.ring("a")
        self.assertIs(one == other, False)

    def test_of_anything(self):
        for thing in OTHER_KINDS + (AlikeToAll(), HUGE, str(rung())):
            self.assertIs(rung() == thing, False)
            self.assertIs(rung() != thing, True)
        self.assertIs(rung().__eq__(AlikeToAll()), False)


class Made(unittest.TestCase):
    def test_no_trees(self):
        for thing in OTHER_KINDS + (AlikeToAll(),):
            if thing is not None:
                with self.assertRaises(BadTree):
                    Ringing(thing, ("zoe",))
        with self.assertRaises(BadTree) as caught:
            Ringing((1, 1, (("a", "", 1), ("a", "", 1))), ("zoe",))
        self.assertEqual((caught.exception.part, caught.exception.number), ("people", 1))

    def test_deep_ones(self):
        for deep in (1, 2, 3, 4):
            with self.assertRaises(BadTree) as caught:
                Ringing((1, deep, ()), ("zoe",))
            self.assertEqual((caught.exception.part, caught.exception.number), ("deep", None))

    def test_away(self):
        for thing, number in ((("zoe",), 0), (["ann"], None), (("bob", "ann"), 1), (0, None), (("ann", None), 1),
                              (AlikeToAll(), None)):
            with self.assertRaises(BadAway) as caught:
                Ringing(HOUSE, thing)
            self.assertEqual(caught.exception.number, number)
        with self.assertRaises(BadAway):
            Ringing(None, ("ann",))

    def test_it_is_the_model(self):
        for tree in mixed_trees(5, 10, 404):
            tree = with_deep(0, tree)
            self.assertEqual(all_asked(Ringing(tree)), all_told(Model(tree)))


if __name__ == "__main__":
    unittest.main()
