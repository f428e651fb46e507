"""Point [61] and the interface of ringing: what a ringing refuses, in which order, and that this changes nothing."""

import unittest

from ringdown.errors import Busy, NoHappening, NoName, OutOfPlace, TooGreat, TooLate, Twice
from ringdown.ringing import Ringing
from tests.ringmodel import all_asked
from tests.samples import HUGE, OTHER_KINDS, TREE, AlikeToAll, Thing, flat

ALL = AlikeToAll()
NO_NAMES = (None, True, 0, "-", "Ann", "a b", "ninechars", ["ann"], ("ann",), b"ann", HUGE, Thing(), ALL, {})
WORDS = ("a", "b", "c", "d", "e", "f")


class Base(unittest.TestCase):
    def setUp(self):
        self.ringing = Ringing(TREE, ("dan",))
        self.ringing.ring("fire")
        self.ringing.go(4)
        self.keep()

    def all(self):
        return all_asked(self.ringing), self.ringing.deeds(), self.ringing.forecast("fire")

    def keep(self):
        self.kept = self.all()

    def same(self):
        self.assertEqual(self.all(), self.kept)

    def refuse(self, kind, deed, *things):
        with self.assertRaises(kind) as caught:
            getattr(self.ringing, deed)(*things)
        self.assertIs(type(caught.exception), kind)
        self.same()
        return caught.exception

    def refuse_name(self, name, deed, *things):
        self.assertIs(self.refuse(NoName, deed, *things).name, name)

    def fill(self):
        """Deeds till there are 200."""
        while len(self.ringing.deeds()) < 200:
            self.ringing.set_wait(2)
        self.keep()


class Deeds(Base):
    def test_ring(self):
        for name in NO_NAMES + ("",):
            self.refuse(OutOfPlace, "ring", name)
        self.refuse(Twice, "ring", "fire")
        # A NAME of the TREE may be a HAPPENING, too.
        self.ringing.ring("ann")
        for word in WORDS[:4]:
            self.ringing.ring(word)
        self.keep()
        self.refuse(TooGreat, "ring", "more")
        self.refuse(Twice, "ring", "ann")
        self.refuse(OutOfPlace, "ring", "More")
        self.fill()
        self.refuse(Twice, "ring", "ann")
        self.refuse(TooGreat, "ring", "more")

    def test_join(self):
        for name in NO_NAMES + ("",):
            self.refuse(OutOfPlace, "join", name, "zoe", 0, -1)
        for name in ("ann", "dan"):
            self.refuse(Twice, "join", name, "zoe", 0, -1)
        for caller in NO_NAMES + ("zoe", "new"):
            self.refuse_name(caller, "join", "new", caller, 0, -1)
        for talk in (0, 61, None, True, "3", HUGE, ALL):
            self.refuse(OutOfPlace, "join", "new", "ann", talk, 0)
        for place in (-1, 3, True, "0", 0.0, HUGE, ALL, ()):
            self.refuse(OutOfPlace, "join", "new", "ann", 3, place)

    def test_names_that_ever_were_there(self):
        self.ringing.join("new", "ann", 3)
        self.ringing.leave("new")
        self.ringing.leave("dan")
        self.keep()
        for name in ("new", "dan", "ann"):
            self.refuse(Twice, "join", name, "zoe", 0)
        for deed, things in (("leave", ()), ("move", ("",)), ("set_talk", (3,)), ("go_away", ()), ("come_back", ())):
            for name in ("new", "dan"):
                self.refuse_name(name, deed, name, *things)
        for name in ("new", "dan"):
            self.refuse_name(name, "join", "newer", name, 3)
            self.refuse_name(name, "move", "ann", name)

    def test_sixteen(self):
        self.ringing = Ringing(flat(16))
        self.ringing.ring("fire")
        self.keep()
        self.refuse(TooGreat, "join", "new", "", 3)
        self.refuse(OutOfPlace, "join", "new", "", 3, 17)
        self.refuse(Twice, "join", "aa", "", 3)
        self.ringing.leave("aa")
        self.assertIsNone(self.ringing.join("new", "", 3))

    def test_leave(self):
        for name in NO_NAMES + ("zoe", ""):
            self.refuse_name(name, "leave", name)
        for name, until in (("ann", 7), ("bob", 8), ("cid", 7)):
            busy = self.refuse(Busy, "leave", name)
            self.assertEqual((busy.name, busy.until), (name, until))

    def test_move(self):
        for name in NO_NAMES + ("zoe", ""):
            self.refuse_name(name, "move", name, "zed", -1)
        for caller in NO_NAMES + ("zoe",):
            self.refuse_name(caller, "move", "ann", caller, -1)
        for caller in ("ann", "cid", "eve"):
            self.refuse(OutOfPlace, "move", "ann", caller, -1)
        for place in (-1, 2, True, "0", 0.0, HUGE, ALL, ()):
            self.refuse(OutOfPlace, "move", "ann", "", place)

    def test_set_talk_and_set_wait(self):
        for name in NO_NAMES + ("zoe", ""):
            self.refuse_name(name, "set_talk", name, 0)
        for number in (0, 61, None, True, "3", HUGE, ALL):
            self.refuse(OutOfPlace, "set_talk", "ann", number)
            self.refuse(OutOfPlace, "set_wait", number)

    def test_go_away_and_come_back(self):
        for name in NO_NAMES + ("zoe", ""):
            self.refuse_name(name, "go_away", name)
            self.refuse_name(name, "come_back", name)
        self.refuse(OutOfPlace, "go_away", "dan")
        self.refuse(OutOfPlace, "come_back", "ann")
        busy = self.refuse(Busy, "go_away", "ann")
        self.assertEqual((busy.name, busy.until), ("ann", 7))
        self.assertEqual(self.refuse(Busy, "go_away", "cid").until, 7)

    def test_who_is_away_and_on_a_phone(self):
        self.ringing.go(3)
        self.ringing.go(1)
        self.keep()
        self.assertEqual(self.ringing.going()[0], (7, 9, "ann", "dan", False, "fire"))
        # Away ahead of busy.
        self.refuse(OutOfPlace, "go_away", "dan")
        busy = self.refuse(Busy, "leave", "dan")
        self.assertEqual((busy.name, busy.until), ("dan", 9))
        self.assertEqual(self.refuse(Busy, "leave", "ann").until, 9)
        self.ringing.go(1)
        self.assertIsNone(self.ringing.leave("dan"))

    def test_a_deed_behind_200(self):
        self.fill()
        self.assertEqual(len(self.ringing.deeds()), 200)
        self.refuse(TooGreat, "ring", "flood")
        self.refuse(TooGreat, "join", "new", "ann", 3)
        self.refuse(TooGreat, "move", "dan", "")
        self.refuse(TooGreat, "set_talk", "ann", 3)
        self.refuse(TooGreat, "set_wait", 3)
        self.refuse(TooGreat, "come_back", "dan")
        self.refuse(TooGreat, "go_away", "fay")
        # Ahead of busy, behind all else.
        self.refuse(TooGreat, "leave", "ann")
        self.refuse(TooGreat, "go_away", "ann")
        self.refuse(OutOfPlace, "set_wait", 0)
        self.refuse(OutOfPlace, "go_away", "dan")
        self.refuse(OutOfPlace, "come_back", "ann")
        self.refuse(Twice, "join", "ann", "ann", 3)
        self.refuse_name("zoe", "leave", "zoe")
        self.assertEqual(self.ringing.go(), 5)

    def test_refused_deeds_are_not_counted(self):
        for _ in range(250):
            self.refuse(OutOfPlace, "set_wait", 0)
        self.fill()
        self.refuse(TooGreat, "set_wait", 2)
        other = self.ringing.copied()
        with self.assertRaises(TooGreat):
            other.set_wait(2)


class Minutes(Base):
    def test_no_minutes(self):
        for minutes in (0, -1, 6000, HUGE, -HUGE, True, False, None, "1", 1.0, (1,), ALL, Thing()):
            self.refuse(OutOfPlace, "go", minutes)
        self.ringing.till_quiet()
        self.keep()
        for minutes in (0, 6000, True):
            self.refuse(OutOfPlace, "go", minutes)

    def test_too_late(self):
        self.assertEqual(self.refuse(TooLate, "go", 5996).minute, 6000)
        self.assertEqual(self.refuse(TooLate, "go", 5999).minute, 6003)
        self.assertEqual(self.ringing.go(5995), 5999)
        self.keep()
        self.assertEqual(self.refuse(TooLate, "go").minute, 6000)
        self.assertEqual(self.refuse(TooLate, "go", 2).minute, 6001)
        self.assertEqual(self.ringing.till_quiet(), 5999)

    def test_not_quiet_in_time(self):
        self.ringing.till_quiet()
        self.ringing.go(5990 - self.ringing.now())
        self.ringing.ring("flood")
        self.keep()
        last = max(row[0] for row in self.ringing.forecast("flood"))
        self.assertEqual(last, 6004)
        self.assertEqual(self.refuse(TooLate, "till_quiet").minute, 6004)
        self.ringing.go(9)
        self.keep()
        self.assertEqual(self.refuse(TooLate, "till_quiet").minute, 6004)

    def test_busy_behind_the_last_minute(self):
        self.ringing.till_quiet()
        self.ringing.go(5998 - self.ringing.now())
        self.ringing.set_talk("ann", 60)
        self.ringing.ring("flood")
        self.ringing.go()
        self.keep()
        self.assertEqual(self.refuse(Busy, "leave", "ann").until, 6058)

    def test_just_in_time(self):
        ringing = Ringing((1, 0, (("ann", "", 9),)))
        ringing.go(5990)
        ringing.ring("fire")
        self.assertEqual(ringing.till_quiet(), 5999)
        self.assertEqual(ringing.told("fire"), [(5999, "ann")])


class Questions(Base):
    def test_no_happenings(self):
        for happening in NO_NAMES + ("", "flood", "ann"):
            for ask in ("told", "missed", "forecast"):
                self.assertIs(self.refuse(NoHappening, ask, happening).word, happening)
            for ask in ("standing", "chain"):
                self.assertIs(self.refuse(NoHappening, ask, happening, "zoe").word, happening)

    def test_no_names(self):
        for name in NO_NAMES + ("zoe", ""):
            self.refuse_name(name, "standing", "fire", name)
            self.refuse_name(name, "chain", "fire", name)
            if name != "" or name is ALL:
                self.refuse_name(name, "line", name)
        self.assertEqual(self.ringing.line(""), self.ringing.line())

    def test_who_left(self):
        self.ringing.go(5)
        self.ringing.leave("cid")
        self.ringing.leave("dan")
        self.keep()
        for name in ("cid", "dan"):
            self.refuse_name(name, "standing", "fire", name)
            self.refuse_name(name, "line", name)
        self.assertEqual(self.ringing.chain("fire", "cid"), [(0, ""), (3, "ann"), (7, "cid")])
        self.assertEqual(self.ringing.chain("fire", "dan"), [])
        self.assertEqual(self.ringing.missed("fire"), [])
        self.assertIn((7, "cid"), self.ringing.told("fire"))


class TheAskersOwn(Base):
    def test_lists_that_are_told(self):
        self.ringing.go(5)
        self.keep()
        for ask in (self.ringing.happenings, lambda: self.ringing.told("fire"), lambda: self.ringing.missed("fire"),
                    self.ringing.line, lambda: self.ringing.line("ann"), self.ringing.going, self.ringing.calls,
                    lambda: self.ringing.chain("fire", "ann"), lambda: self.ringing.forecast("fire"), self.ringing.deeds):
            told = ask()
            told.append("more")
            told.reverse()
            again = ask()
            told.clear()
            self.assertNotIn("more", again)
            self.same()

    def test_what_is_told_stays_as_told(self):
        told = [self.ringing.happenings(), self.ringing.line(), self.ringing.going(), self.ringing.calls(),
                self.ringing.told("fire"), self.ringing.deeds(), self.ringing.first(), self.ringing.tree()]
        kept = [list(each) for each in told]
        self.ringing.ring("flood")
        self.ringing.set_talk("ann", 9)
        self.ringing.till_quiet()
        self.assertEqual([list(each) for each in told], kept)

    def test_of_anything_else_nothing_is_done(self):
        for thing in OTHER_KINDS:
            for deed in ("leave", "go_away", "come_back"):
                self.refuse_name(thing, deed, thing)
            if thing != 7:
                self.refuse(OutOfPlace, "set_wait", thing)
            if thing != "tree":
                self.refuse(OutOfPlace, "ring", thing)


if __name__ == "__main__":
    unittest.main()
