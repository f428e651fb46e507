"""Points [73] to [77]: a desk, its lines, questions and answers."""

import unittest
from random import Random

from ringdown.bookread import read_book
from ringdown.desk import Desk
from ringdown.errors import BadRow
from ringdown.plan import Plan
from ringdown.plantext import plan_text, read_plan_text
from ringdown.ringbook import book_text
from ringdown.ringing import Ringing
from tests.ringmodel import all_asked
from tests.samples import HUGE, NAMES, OTHER_KINDS, AlikeToAll, Thing, chain, flat, twofold

TEXT = "plan 4\ntree 2 0\nann - 3\nbob - 5\ncid ann 4\ndan ann 5\naway dan"
BOOK = "plan 2 ; tree 1 0 ; ann - 3 ; bob ann 4 ; away ; 0:00 ring fire ; 0:02 set_talk bob 9 ; 0:04 now"


def stands(desk):
    """All that can be seen of a desk."""
    plan, live = desk.plan(), desk.live()
    return ((plan.tree(), plan.away(), plan.kept(), plan.changed(), plan.looked()), all_asked(live), live.deeds(),
            live.first(), desk.lines(), len(desk))


class Base(unittest.TestCase):
    def setUp(self):
        self.desk = Desk(TEXT)

    def say(self, *pairs):
        """Lines with their answers."""
        for line, answer in pairs:
            self.assertEqual(self.desk.say(line), answer, line)

    def done(self, *lines):
        self.say(*[(line, "done") for line in lines])

    def unchanged(self, *pairs):
        """Lines that change nothing, with their answers."""
        kept = stands(self.desk)
        self.say(*pairs)
        self.assertEqual(stands(self.desk), kept)


class Made(unittest.TestCase):
    def test_of_nothing(self):
        for desk in (Desk(), Desk(None), Desk(text=None)):
            self.assertEqual((desk.plan(), desk.live(), desk.lines(), len(desk)), (Plan(), Ringing(), [], 0))
            self.assertEqual((desk.say("plan text"), desk.say("live book")),
                             ("plan 0 ; tree 1 0 ; away", "plan 0 ; tree 1 0 ; away ; 0:00 now"))

    def test_of_a_text(self):
        for desk in (Desk(TEXT), Desk(text=TEXT)):
            self.assertEqual(desk.plan(), Plan(*read_plan_text(TEXT)))
            self.assertEqual((desk.live(), desk.lines()), (Ringing(), []))

    def test_refused(self):
        for thing in OTHER_KINDS + (AlikeToAll(), TEXT.encode(), [TEXT], HUGE):
            if thing is not None:
                with self.assertRaises(BadRow) as caught:
                    Desk(thing)
                if not isinstance(thing, str):
                    self.assertEqual((caught.exception.row, caught.exception.word), (0, 0))
        for text, row, word in (("", 1, 0), (TEXT + "\n", 8, 0), (TEXT.replace("tree 2 0", "tree 2 5"), 2, 3),
                                (TEXT.replace("\n", " ; "), 1, 3)):
            with self.assertRaises(BadRow) as caught:
                Desk(text)
            self.assertEqual((caught.exception.row, caught.exception.word), (row, word))

    def test_two_desks(self):
        one, other = Desk(TEXT), Desk(TEXT)
        kept = stands(other)
        for line in ("plan leave ann", "start", "live ring fire", "live go 3", "plan keep one", "plan worst 1 last", "back"):
            one.say(line)
        self.assertEqual(stands(other), kept)


class PlanDeeds(Base):
    def test_each(self):
        plan = Plan(*read_plan_text(TEXT))
        for line, deed in (
            ("plan join new ann 7 1", lambda: plan.join("new", "ann", 7, 1)),
            ("plan join newer ann 7", lambda: plan.join("newer", "ann", 7)),
            ("plan join newest - 60 0", lambda: plan.join("newest", "", 60, 0)),
            ("plan join last - 1", lambda: plan.join("last", "", 1)),
            ("plan move new bob 0", lambda: plan.move("new", "bob", 0)),
            ("plan move newer bob", lambda: plan.move("newer", "bob")),
            ("plan move newest -", lambda: plan.move("newest", "")),
            ("plan move newest - 1", lambda: plan.move("newest", "", 1)),
            ("plan set_talk ann 9", lambda: plan.set_talk("ann", 9)),
            ("plan set_wait 9", lambda: plan.set_wait(9)),
            ("plan set_deep 2", lambda: plan.set_deep(2)),
            ("plan go_away bob", lambda: plan.go_away("bob")),
            ("plan keep one", lambda: plan.keep("one")),
            ("plan come_back dan", lambda: plan.come_back("dan")),
            ("plan put_in_order", lambda: plan.put_in_order()),
            ("plan put_in_order sum", lambda: plan.put_in_order("sum")),
            ("plan put_in_order quiet", lambda: plan.put_in_order("quiet")),
            ("plan leave cid", lambda: plan.leave("cid")),
            ("plan put_back one", lambda: plan.put_back("one")),
            ("plan drop one", lambda: plan.drop("one")),
        ):
            deed()
            self.say((line, "done"))
            mine = self.desk.plan()
            self.assertEqual((mine, mine.kept(), mine.changed()), (plan, plan.kept(), plan.changed()), line)
        self.assertEqual((len(self.desk), self.desk.lines()[:2]), (20, ["plan join new ann 7 1", "plan join newer ann 7"]))
        self.assertEqual(self.desk.live(), Ringing())

    def test_refused(self):
        self.done("plan keep one")
        self.unchanged(
            ("plan join ann - 3", "refused twice"), ("plan join new zoe 3", "refused name zoe"),
            ("plan join new - 0", "refused place"), ("plan join new - 3 3", "refused place"),
            ("plan leave zoe", "refused name zoe"), ("plan move zoe zed", "refused name zoe"),
            ("plan move ann zed", "refused name zed"), ("plan move ann cid", "refused place"),
            ("plan move ann ann", "refused place"), ("plan set_talk zoe 3", "refused name zoe"),
            ("plan set_talk ann 61", "refused place"), ("plan set_wait 0", "refused place"), ("plan set_deep 5", "refused place"),
            ("plan go_away dan", "refused place"), ("plan come_back ann", "refused place"), ("plan go_away zoe", "refused name zoe"),
            ("plan put_in_order first", "refused place"), ("plan put_back two", "refused mark two"),
            ("plan drop two", "refused mark two"))
        for word in ("two", "three", "four", "five", "six"):
            self.done(f"plan keep {word}")
        self.unchanged(("plan keep seven", "refused great"))
        self.desk = Desk(plan_text(flat(16)))
        self.unchanged(("plan join new - 3", "refused great"))


class LiveDeeds(Base):
    def test_each(self):
        self.done("start")
        live = Ringing(*read_plan_text(TEXT))
        self.assertEqual(self.desk.live(), live)
        for line, deed in (
            ("live ring fire", lambda: live.ring("fire")), ("live go", live.go), ("live go 3", lambda: live.go(3)),
            ("live join new ann 7 1", lambda: live.join("new", "ann", 7, 1)),
            ("live join newer ann 7", lambda: live.join("newer", "ann", 7)),
            ("live join last - 1", lambda: live.join("last", "", 1)), ("live move new bob 0", lambda: live.move("new", "bob", 0)),
            ("live move newer bob", lambda: live.move("newer", "bob")), ("live move last -", lambda: live.move("last", "")),
            ("live set_talk ann 9", lambda: live.set_talk("ann", 9)), ("live set_wait 9", lambda: live.set_wait(9)),
            ("live come_back dan", lambda: live.come_back("dan")), ("live go 60", lambda: live.go(60)),
            ("live go_away dan", lambda: live.go_away("dan")), ("live leave newer", lambda: live.leave("newer")),
            ("live ring flood", lambda: live.ring("flood")), ("live till_quiet", live.till_quiet),
        ):
            told = deed()
            answer = "done" if told is None else f"{told // 60}:{told % 60:02}"
            self.say((line, answer))
            self.assertEqual((self.desk.live(), self.desk.live().deeds()), (live, live.deeds()), line)
        self.assertEqual(len(self.desk), 18)
        self.assertEqual(self.desk.plan(), Plan(*read_plan_text(TEXT)))

    def test_refused(self):
        self.done("start", "live ring fire")
        self.say(("live go 4", "0:04"))
        self.unchanged(
            ("live ring fire", "refused twice"), ("live join ann - 3", "refused twice"),
            ("live join new zoe 3", "refused name zoe"), ("live join new - 61", "refused place"),
            ("live join new - 6 3", "refused place"), ("live leave zoe", "refused name zoe"),
            ("live leave ann", "refused busy ann 0:07"), ("live leave bob", "refused busy bob 0:08"),
            ("live go_away cid", "refused busy cid 0:07"), ("live go_away dan", "refused place"),
            ("live come_back ann", "refused place"), ("live move ann cid", "refused place"),
            ("live move zoe -", "refused name zoe"), ("live set_talk ann 0", "refused place"), ("live set_wait 61", "refused place"),
            ("live go 0", "refused place"), ("live go 6000", "refused place"), ("live go 5996", "refused late"))
        self.say(("live go 5995", "99:59"))
        self.unchanged(("live go", "refused late"), ("live go 1", "refused late"), ("live go 2", "refused late"))
        self.done("live ring flood")
        self.unchanged(("live till_quiet", "refused late"))
        for word in ("a", "b", "c", "d"):
            self.done(f"live ring {word}")
        self.unchanged(("live ring e", "refused great"))

    def test_busy_behind_the_last_minute(self):
        self.done("start")
        self.say(("live go 5990", "99:50"))
        self.done("live set_talk ann 60", "live ring fire")
        self.say(("live go", "99:51"))
        self.unchanged(("live leave ann", "refused busy ann 100:50"), ("live going", "99:50 100:50 - ann yes fire"),
                       ("live forecast fire", "100:50 ann, 100:54 cid, 100:55 bob"))

    def test_a_deed_behind_200(self):
        self.done("start", *["live set_wait 9"] * 200)
        self.unchanged(("live set_wait 9", "refused great"), ("live set_wait 0", "refused place"))
        self.assertEqual(len(self.desk), 201)


class InThePlace(Base):
    def test_start(self):
        self.done("plan go_away ann", "plan set_wait 7", "live ring fire", "start")
        self.assertEqual(self.desk.live(), Ringing(self.desk.plan().tree(), ("ann", "dan")))
        self.assertEqual(self.desk.live().happenings(), [])
        self.done("plan set_deep 1")
        self.unchanged(("start", "refused tree"))

    def test_adopt(self):
        self.done("start", "live ring fire", "plan keep one", "plan leave cid")
        self.say(("plan worst 1 last", "12"), ("live go 2", "0:02"))
        self.done("live come_back dan", "live join new bob 3", "adopt")
        plan = self.desk.plan()
        self.assertEqual((plan.tree(), plan.away()), (self.desk.live().tree(), ()))
        # A PLAN anew: nothing kept, changed or looked at.
        self.assertEqual((plan.kept(), plan.changed(), plan.looked()), ([], [], 0))
        self.assertEqual(self.desk.live().now(), 2)

    def test_read(self):
        self.done("read " + BOOK)
        self.assertEqual(self.desk.live(), read_book(BOOK.replace(" ; ", "\n")))
        self.assertEqual(self.desk.live().deeds(), [(0, "ring", "fire"), (2, "set_talk", "bob", 9)])
        self.say(("live book", BOOK), ("live till_quiet", "0:12"))
        self.assertEqual(self.desk.plan(), Plan(*read_plan_text(TEXT)))

    def test_read_refused(self):
        rows = BOOK.split(" ; ")
        self.unchanged(
            ("read x", "refused row 1 1"), ("read plan", "refused row 1 2"), ("read plan 17", "refused row 1 2"),
            ("read " + BOOK.replace("tree 1 0", "tree 1 1"), "refused row 2 3"), ("read " + " ; ".join(rows[:5]), "refused row 6 0"),
            ("read " + BOOK + " ; 0:05 now", "refused row 9 0"), ("read " + BOOK.replace("bob 9", "zoe 9"), "refused row 7 2"),
            ("read " + BOOK.replace("bob 9", "bob nine"), "refused row 7 4"), ("read " + BOOK.replace("0:02", "0:60"), "refused row 7 1"),
            ("read " + BOOK + " ;", "refused row 8 3"), ("read ;", "refused row 1 1"), ("read " + BOOK.replace(" ; ", ";"), "refused row 1 2"),
            ("read " + BOOK.replace(" ; ", "\n"), "no line"), ("read", "no line"), ("read " + BOOK + " ; ", "no line"))

    def test_what_is_told_may_be_said_again(self):
        self.done("start", "live ring fire")
        self.say(("live go 3", "0:03"))
        self.done("live leave cid", "live join new dan 4 0")
        book = self.desk.say("live book")
        live = self.desk.live()
        other = Desk()
        self.assertEqual(other.say("read " + book), "done")
        self.assertEqual((other.live(), other.live().deeds(), other.say("live book")), (live, live.deeds(), book))
        text = self.desk.say("plan text")
        self.assertEqual(Desk(text.replace(" ; ", "\n")).plan(), self.desk.plan())


class PlanQuestions(Base):
    def test_each(self):
        self.unchanged(
            ("plan told ann", "0:03"), ("plan told dan", "none"), ("plan told cid", "0:07"), ("plan last", "0:08"),
            ("plan quiet", "0:09"), ("plan lost", "none"),
            ("plan calls", "0:00 0:03 - ann yes, 0:03 0:08 - bob yes, 0:03 0:07 ann cid yes, 0:07 0:09 ann dan no"),
            ("plan soonest", "8"), ("plan kept", "none"), ("plan changed", "none"), ("plan looked", "0"),
            ("plan text", TEXT.replace("bob - 5\ncid ann 4\ndan ann 5", "cid ann 4\ndan ann 5\nbob - 5").replace("\n", " ; ")))

    def test_worst(self):
        plan = self.desk.plan()
        for many in range(5):
            for which in ("last", "quiet", "lost"):
                self.say((f"plan worst {many} {which}", str(plan.worst(many, which))))
            for name in ("ann", "bob", "cid", "dan"):
                self.say((f"plan worst {many} told {name}", str(plan.worst(many, "told", name))))
        self.say(("plan worst 16 last", str(plan.worst(16))), ("plan looked", "3"))
        self.unchanged(("plan worst 17 last", "refused place"), ("plan worst 1 first", "refused place"),
                       ("plan worst 1 last ann", "refused place"), ("plan worst 1 told", "refused name -"),
                       ("plan worst 1 told zoe", "refused name zoe"), ("plan worst 1", "no line"),
                       ("plan worst", "no line"), ("plan worst x last", "no line"), ("plan worst 1 3", "no line"),
                       ("plan worst 1 told -", "no line"), ("plan worst 1 told ann bob", "no line"))

    def test_lost_kept_changed(self):
        self.done("plan set_deep 1", "plan go_away ann")
        self.say(("plan lost", "cid"), ("plan changed", "ann 0:03 none, bob 0:08 0:07, cid 0:07 none"))
        self.done("plan come_back dan")
        self.say(("plan lost", "cid, dan"), ("plan changed", "none"))
        self.done("plan keep two", "plan keep one", "plan set_talk bob 60", "plan set_wait 60")
        self.say(("plan kept", "one, two"), ("plan changed", "bob 1:02 2:00"), ("plan last", "2:00"), ("plan quiet", "2:00"),
                 ("plan soonest", "60"))

    def test_numbers_below_nought_and_many_minutes(self):
        desk = Desk(plan_text(chain(16, talk=60)))
        self.assertEqual(desk.say("plan last"), "16:00")
        self.assertEqual(desk.say("plan told " + NAMES[15]), "16:00")
        self.assertEqual(desk.say("plan soonest"), "960")

    def test_refused(self):
        self.unchanged(("plan told zoe", "refused name zoe"), ("plan told -", "no line"), ("plan told Ann", "no line"),
                       ("plan told", "no line"), ("plan told ann bob", "no line"))


class LiveQuestions(Base):
    def setUp(self):
        Base.setUp(self)
        self.done("start", "live ring fire")
        self.say(("live go 4", "0:04"))
        self.done("live ring flood")

    def test_each(self):
        self.unchanged(
            ("live now", "0:04"), ("live happenings", "0:00 fire, 0:04 flood"), ("live standing fire ann", "told"),
            ("live standing fire bob", "called"), ("live standing flood bob", "in line"), ("live standing flood cid", "waiting"),
            ("live told fire", "0:03 ann"), ("live told flood", "none"), ("live missed fire", "none"),
            ("live line", "flood ann, flood bob"), ("live line ann", "fire dan"), ("live line bob", "none"),
            ("live going", "0:03 0:08 - bob yes fire, 0:03 0:07 ann cid yes fire"), ("live calls", "0:00 0:03 - ann yes fire"),
            ("live chain fire ann", "0:00 -, 0:03 ann"), ("live chain fire bob", "none"), ("live is_quiet", "no"),
            ("live forecast fire", "0:03 ann, 0:07 cid, 0:08 bob"),
            ("live forecast flood", "0:13 bob, 0:16 ann, 0:20 cid"),
            ("live book", "plan 4 ; tree 2 0 ; ann - 3 ; cid ann 4 ; dan ann 5 ; bob - 5 ; away dan ; 0:00 ring fire ; "
                          "0:04 ring flood ; 0:04 now"))

    def test_behind_till_quiet(self):
        self.say(("live till_quiet", "0:22"))
        self.unchanged(
            ("live is_quiet", "yes"), ("live going", "none"), ("live missed fire", "dan"), ("live line", "none"),
            ("live told fire", "0:03 ann, 0:07 cid, 0:08 bob"), ("live chain flood cid", "0:04 -, 0:16 ann, 0:20 cid"),
            ("live calls", "0:00 0:03 - ann yes fire, 0:03 0:07 ann cid yes fire, 0:03 0:08 - bob yes fire, "
                           "0:07 0:09 ann dan no fire, 0:08 0:13 - bob yes flood, 0:13 0:16 - ann yes flood, "
                           "0:16 0:20 ann cid yes flood, 0:20 0:22 ann dan no flood"))
        self.done("live come_back dan", "live leave bob")
        self.say(("live line ann", "fire dan, flood dan"), ("live told flood", "0:13 bob, 0:16 ann, 0:20 cid"))

    def test_refused(self):
        self.unchanged(
            ("live standing hail ann", "refused happening hail"), ("live standing fire zoe", "refused name zoe"),
            ("live told hail", "refused happening hail"), ("live missed ann", "refused happening ann"),
            ("live line zoe", "refused name zoe"), ("live chain hail ann", "refused happening hail"),
            ("live chain fire zoe", "refused name zoe"), ("live forecast hail", "refused happening hail"),
            ("late hail", "refused happening hail"),
            ("live standing fire -", "no line"), ("live standing fire", "no line"), ("live told", "no line"),
            ("live told fire ann", "no line"), ("live line -", "no line"), ("live line ann bob", "no line"),
            ("live chain fire", "no line"), ("live forecast", "no line"), ("live now now", "no line"), ("live going ann", "no line"),
            ("live is_quiet yes", "no line"), ("live book 1", "no line"), ("late", "no line"), ("late -", "no line"),
            ("late fire flood", "no line"), ("late Fire", "no line"), ("late 3", "no line"))

    def test_late(self):
        # By the PLAN ann at 3, cid at 7, bob at 8; the flood was rung at 4.
        self.unchanged(("late fire", "none"), ("late flood", "bob 1, ann 9, cid 9"))
        self.done("plan set_talk bob 50")
        self.unchanged(("late fire", "bob -45"), ("late flood", "bob -44, ann 9, cid 9"))
        self.done("plan leave cid", "plan go_away ann")
        # Of cid and ann the PLAN tells no minute.
        self.unchanged(("plan told ann", "none"), ("late fire", "bob -46"), ("late flood", "bob -45"))
        self.done("live come_back dan")
        self.unchanged(("late fire", "bob -46"))
        self.done("plan come_back dan", "plan come_back ann")
        self.unchanged(("plan told dan", "0:08"), ("live forecast fire", "0:03 ann, 0:07 cid, 0:08 bob, 0:12 dan"),
                       ("late fire", "bob -45, dan 4"))

    def test_late_of_those_who_left(self):
        self.say(("live go 5", "0:09"))
        self.done("live leave cid")
        self.unchanged(("late fire", "none"))
        self.done("plan set_talk cid 5")
        self.unchanged(("late fire", "cid -1"))


class NoLines(Base):
    def test_other_words(self):
        self.unchanged(*[(line, "no line") for line in (
            "", " ", "-", "x", "plan", "live", "plan  last", " plan last", "plan last ", "Plan last", "plan Last", "plan x",
            "live x", "plan now", "live last", "live quiet", "live lost", "live kept", "live set_deep 3", "live put_in_order",
            "live keep one", "live drop one", "live put_back one", "plan ring fire", "plan go 3", "plan go", "plan till_quiet",
            "plan standing fire ann", "plan book", "live text", "plan tree", "plan away", "live tree", "live away", "live deeds",
            "live first", "live copied", "plan copied", "plan best_places 3", "plan best_places", "plan repr", "plan len",
            "x ring fire", "start ring fire", "desk go 3", "x leave ann",
            "plans leave ann", "x last", "x now", "start now", "adopt ann", "back 1", "back back", "again 1", "undo", "redo", "done", "none", "no line", "plan soonest last",
            "plan join", "plan join new", "plan join new ann", "plan join new ann 3 1 1", "plan join - ann 3", "plan join new ann x",
            "plan join new ann -", "plan join new ann 3 -", "plan join New ann 3", "plan join new Ann 3", "plan join new 3 3",
            "plan leave", "plan leave -", "plan leave ann bob", "plan move", "plan move ann", "plan move ann - 0 0", "plan move - ann",
            "plan move ann - x", "plan set_talk ann", "plan set_talk ann -3", "plan set_talk ann 03", "plan set_talk ann 3 3",
            "plan set_talk - 3", "plan set_wait", "plan set_wait ann", "plan set_wait 3 3", "plan set_wait 100000", "plan set_deep",
            "plan set_deep one", "plan go_away", "plan go_away -", "plan come_back", "plan come_back dan ann",
            "plan put_in_order last sum", "plan put_in_order 3", "plan put_in_order -", "plan put_back", "plan put_back 3",
            "plan put_back one two", "plan keep", "plan keep 3", "plan keep One", "plan keep -", "plan keep one two", "plan drop",
            "plan drop one two", "plan drop 3", "live ring", "live ring 3", "live ring -", "live ring fire flood", "live join new",
            "live leave ann bob", "live go x", "live go -", "live go 1 1", "live go -1", "live go 00", "live till_quiet 3",
            "live move ann", "live set_talk ann", "live set_wait", "plan last 1", "plan quiet now", "plan lost ann",
            "plan kept one", "plan changed ann", "plan looked 3", "plan text 1", "plan calls 1", "plan last\n", "\nplan last",
            "plan told\nann", "plan\nlast", "start\n", "back\n", "\n")])

    def test_no_texts(self):
        for thing in OTHER_KINDS + (AlikeToAll(), Thing(), b"start", ["start"], ("plan", "last"), HUGE):
            if not isinstance(thing, str):
                self.unchanged((thing, "no line"))
        self.assertEqual(self.desk.say(line="plan last"), "0:08")


class BackAndAgain(Base):
    def test_there_is_none(self):
        self.unchanged(("back", "refused back"), ("again", "refused again"))
        self.say(("plan last", "0:08"), ("plan leave zoe", "refused name zoe"), ("x", "no line"))
        self.unchanged(("back", "refused back"), ("again", "refused again"))

    def test_many_in_a_row(self):
        lines = ["plan go_away ann", "start", "live ring fire", "plan keep one", "live go 3", "plan set_talk cid 9",
                 "live come_back ann", "adopt", "read " + BOOK, "live till_quiet", "plan put_in_order", "live leave bob"]
        seen = [stands(self.desk)]
        for line in lines:
            self.assertFalse(self.desk.say(line).startswith(("refused", "no")), line)
            seen.append(stands(self.desk))
        self.assertEqual((self.desk.lines(), len(self.desk)), (lines, 12))
        for at in range(len(lines) - 1, -1, -1):
            self.say(("back", "done"))
            self.assertEqual(stands(self.desk), seen[at])
            self.assertEqual((self.desk.lines(), len(self.desk)), (lines[:at], at))
        self.unchanged(("back", "refused back"))
        for at in range(1, len(lines) + 1):
            self.say(("again", "done"))
            self.assertEqual(stands(self.desk), seen[at])
        self.unchanged(("again", "refused again"))

    def test_done_otherwise_since(self):
        self.done("plan leave ann", "plan leave bob", "back", "back", "again")
        self.assertEqual(self.desk.lines(), ["plan leave ann"])
        self.done("plan leave cid")
        self.unchanged(("again", "refused again"))
        self.done("back", "again", "back", "back")
        self.assertEqual(self.desk.lines(), [])
        self.done("again")
        self.assertEqual(self.desk.lines(), ["plan leave ann"])
        self.done("again")
        self.assertEqual(self.desk.lines(), ["plan leave ann", "plan leave cid"])
        self.unchanged(("again", "refused again"))

    def test_refused_lines_and_questions_between(self):
        self.done("plan leave ann", "plan leave bob", "back")
        self.unchanged(("plan leave ann", "refused name ann"), ("x", "no line"), ("plan last", "0:11"), ("live now", "0:00"),
                       ("live go 6000", "refused place"), ("start now", "no line"), ("again again", "no line"))
        self.done("again")
        self.assertEqual(self.desk.lines(), ["plan leave ann", "plan leave bob"])

    def test_what_was_looked_at(self):
        self.say(("plan worst 1 last", "16"), ("plan looked", "3"))
        self.done("plan set_wait 3")
        self.say(("plan worst 1 last", "17"), ("plan looked", "6"))
        # As it stood ahead of the line: what was wanted since is wanted no more.
        self.done("back")
        self.say(("plan looked", "3"), ("plan worst 2 lost", "0"), ("plan looked", "3"))
        self.done("again")
        self.say(("plan looked", "3"))

    def test_done_again_on_what_stands_by_then(self):
        self.done("plan set_wait 3", "plan set_deep 1", "back", "back")
        self.say(("plan worst 1 last", "16"), ("plan looked", "3"))
        # The question asked meanwhile stays asked.
        self.done("again", "again")
        self.say(("plan looked", "3"))
        self.done("back", "back")
        self.say(("plan looked", "3"), ("plan changed", "none"))

    def test_a_live_line_takes_the_plan_back_too(self):
        self.done("start", "live ring fire")
        self.say(("plan worst 1 last", "16"), ("plan looked", "3"))
        self.done("back")
        self.say(("plan looked", "0"), ("live happenings", "none"))

    def test_keep_and_drop(self):
        self.done("plan keep one", "plan drop one")
        self.say(("plan kept", "none"))
        self.done("back")
        self.say(("plan kept", "one"))
        self.done("back")
        self.say(("plan kept", "none"))
        self.done("again")
        self.say(("plan kept", "one"))

    def test_go(self):
        self.done("start", "live ring fire")
        self.say(("live go 3", "0:03"), ("live till_quiet", "0:09"), ("back", "done"), ("live now", "0:03"), ("back", "done"),
                 ("live now", "0:00"), ("again", "done"), ("again", "done"), ("live now", "0:09"))

    def test_by_chance(self):
        dice = Random(701)
        lines = ("plan leave ann", "plan join ann - 3", "plan go_away bob", "plan come_back bob", "plan keep one", "plan put_back one",
                 "plan drop one", "plan set_deep 1", "plan set_deep 0", "plan put_in_order sum", "plan set_talk cid 9", "start",
                 "adopt", "read " + BOOK, "live ring fire", "live ring flood", "live go 2", "live go", "live till_quiet",
                 "live go_away ann", "live come_back ann", "live leave bob", "live join new - 4", "live move bob -", "live set_wait 5")
        others = ("plan last", "live now", "x", "late fire", "plan worst 99 last", "live book", "plan told zoe")
        for _ in range(12):
            desk = Desk(TEXT)
            past, later = [stands(desk)], []
            for _ in range(60):
                line = dice.choice(dice.choice((lines, lines, ("back",), ("back", "again"), ("again",), others)))
                answer = desk.say(line)
                if answer.startswith("refused") or answer == "no line" or line in others:
                    if line == "back":
                        self.assertEqual(len(past), 1)
                    if line == "again":
                        self.assertEqual(later, [])
                elif line == "back":
                    later.append(past.pop())
                elif line == "again":
                    past.append(later.pop())
                else:
                    past.append(stands(desk))
                    later = []
                self.assertEqual(stands(desk), past[-1])
                self.assertEqual(len(desk), len(past) - 1)
            self.as_new(desk)

    def as_new(self, desk):
        """A desk stands as a new one to which just the lines that stand are said."""
        other = Desk(TEXT)
        for line in desk.lines():
            other.say(line)
        self.assertEqual(stands(other), stands(desk))


class TheAskersOwn(Base):
    def test_copies(self):
        self.done("start", "live ring fire")
        kept = stands(self.desk)
        plan, live, lines = self.desk.plan(), self.desk.live(), self.desk.lines()
        plan.leave("ann")
        plan.keep("one")
        plan.worst(1)
        live.go(9)
        live.leave("bob")
        lines.append("more")
        lines.reverse()
        self.assertEqual(stands(self.desk), kept)
        self.assertEqual(self.desk.lines(), ["start", "live ring fire"])
        plan, live, lines = self.desk.plan(), self.desk.live(), self.desk.lines()
        told = plan.tree(), live.now(), list(lines)
        self.done("plan leave ann", "live set_wait 7")
        self.say(("live go 4", "0:04"))
        self.assertEqual((plan.tree(), live.now(), lines), told)

    def test_kinds(self):
        self.assertIs(type(self.desk.plan()), Plan)
        self.assertIs(type(self.desk.live()), Ringing)
        self.assertIs(type(self.desk.lines()), list)
        for line in ("plan last", "start", "x", "back", "again", "again", None):
            self.assertIs(type(self.desk.say(line)), str)

    def test_what_was_taken_back_changes_nothing(self):
        self.done("start", "live ring fire")
        live = self.desk.live()
        self.say(("live go 4", "0:04"))
        self.done("back")
        self.assertEqual(self.desk.live(), live)
        self.say(("live go 4", "0:04"))
        live.go(4)
        self.assertEqual(self.desk.live(), live)


class Sixteen(unittest.TestCase):
    def test_sixteen(self):
        for tree in (chain(16), flat(16), twofold(16)):
            desk = Desk(plan_text(tree, NAMES[::5]))
            for line in ("start", "live ring fire", "live go 9", "live ring flood", "live till_quiet", "adopt"):
                self.assertNotIn("refused", desk.say(line))
            self.assertEqual(desk.live(), read_book(desk.say("live book").replace(" ; ", "\n")))
            self.assertEqual(desk.say("live book").replace(" ; ", "\n"), book_text(desk.live()))
            self.assertEqual(desk.say("plan text").split(" ; ")[0], "plan 16")


if __name__ == "__main__":
    unittest.main()
