"""Points [54] and [55]: people who join, leave, move, go away and come back while calls go on."""

import unittest

from ringdown.errors import Busy
from ringdown.ringing import Ringing
from tests.ringmodel import Model, all_asked, all_told, done_by_model, mixed_story, on_phone, some_deed

# bell: ann 3, bob 5; ann: cid 4, dan 5; cid: eve 2. Nobody answers: 2.
HOUSE = (2, 0, (("ann", "", 3), ("bob", "", 5), ("cid", "ann", 4), ("dan", "ann", 5), ("eve", "cid", 2)))


def rung(minutes=0, away=None, tree=HOUSE):
    ringing = Ringing(tree, away)
    ringing.ring("fire")
    if minutes:
        ringing.go(minutes)
    return ringing


def row(*names):
    return [("fire", name) for name in names]


class WhoJoins(unittest.TestCase):
    def test_under_the_bell(self):
        ringing = rung()
        # To the end of the LINE, wherever in the LIST.
        ringing.join("new", "", 3, 0)
        self.assertEqual(ringing.line(), row("ann", "bob", "new"))
        self.assertEqual([each[0] for each in ringing.tree()[2]][0], "new")
        self.assertEqual(ringing.standing("fire", "new"), "in line")

    def test_under_one_who_waits_or_is_in_line_or_is_called(self):
        for minutes, caller in ((0, "cid"), (0, "ann"), (1, "ann"), (4, "cid")):
            ringing = rung(minutes)
            ringing.join("new", caller, 3)
            self.assertEqual(ringing.standing("fire", "new"), "waiting")
            ringing.till_quiet()
            self.assertEqual(ringing.chain("fire", "new")[-2][1], caller)

    def test_joined_while_the_caller_is_called(self):
        ringing = rung(1)
        ringing.join("new", "ann", 3, 1)
        ringing.go(2)
        # In the order of the LIST by then.
        self.assertEqual(ringing.line("ann"), row("cid", "new", "dan"))

    def test_under_one_who_is_told(self):
        ringing = rung(3)
        ringing.join("new", "ann", 3, 0)
        self.assertEqual(ringing.line("ann"), row("cid", "dan", "new"))

    def test_under_one_who_is_missed(self):
        ringing = rung(2, ("ann",))
        self.assertEqual(ringing.line(), row("cid", "dan", "bob"))
        ringing.join("new", "ann", 3)
        self.assertEqual(ringing.line(), row("cid", "dan", "bob", "new"))

    def test_under_one_who_is_told_and_away(self):
        ringing = rung(8)
        self.assertEqual(ringing.going(), [(7, 12, "ann", "dan", True, "fire"), (7, 9, "cid", "eve", True, "fire")])
        ringing.go(1)
        ringing.go_away("cid")
        ringing.join("new", "cid", 3)
        self.assertEqual((ringing.line("cid"), ringing.line("ann")), ([], row("new")))
        ringing.go(3)
        ringing.go_away("ann")
        self.assertEqual((ringing.line("ann"), ringing.line()), ([], row("new")))

    def test_under_one_who_is_called_again(self):
        ringing = rung(2, ("ann",))
        ringing.come_back("ann")
        self.assertEqual(ringing.line(), row("cid", "dan", "bob", "ann"))
        ringing.join("new", "ann", 3)
        self.assertEqual(ringing.line(), row("cid", "dan", "bob", "ann", "new"))
        ringing.go(15)
        self.assertEqual(ringing.going(), [(16, 19, "", "ann", True, "fire")])
        # A call to ann has ended: so she is HANDED, and her HOLDER is who calls her.
        ringing.join("newer", "ann", 3)
        self.assertEqual(ringing.line(), row("new", "newer"))

    def test_who_joins_is_there(self):
        ringing = rung()
        ringing.join("new", "", 3)
        self.assertEqual(ringing.away(), ())
        ringing.till_quiet()
        self.assertEqual(ringing.standing("fire", "new"), "told")

    def test_each_happening_by_itself(self):
        ringing = rung(3)
        ringing.ring("flood")
        ringing.join("new", "ann", 3)
        self.assertEqual((ringing.standing("fire", "new"), ringing.standing("flood", "new")), ("in line", "waiting"))
        ringing.join("newer", "", 3)
        self.assertEqual(ringing.line(), [("fire", "bob"), ("flood", "ann"), ("flood", "bob"), ("fire", "newer"),
                                          ("flood", "newer")])

    def test_happenings_that_are_rung_later(self):
        ringing = Ringing(HOUSE)
        ringing.join("new", "ann", 3)
        ringing.ring("fire")
        self.assertEqual(ringing.standing("fire", "new"), "waiting")


class WhoMoves(unittest.TestCase):
    def test_in_line_to_the_end(self):
        ringing = rung()
        ringing.move("ann", "", 0)
        self.assertEqual(ringing.line(), row("bob", "ann"))
        ringing.move("bob", "ann")
        self.assertEqual((ringing.line(), ringing.standing("fire", "bob")), (row("ann"), "waiting"))
        ringing.move("bob", "")
        self.assertEqual(ringing.line(), row("ann", "bob"))

    def test_waiting(self):
        ringing = rung()
        ringing.move("dan", "cid")
        self.assertEqual(ringing.standing("fire", "dan"), "waiting")
        ringing.move("dan", "", 0)
        self.assertEqual(ringing.line(), row("ann", "bob", "dan"))

    def test_those_below_stand_as_ahead(self):
        ringing = rung()
        ringing.move("cid", "")
        self.assertEqual((ringing.line(), ringing.standing("fire", "eve")), (row("ann", "bob", "cid"), "waiting"))

    def test_from_line_to_line(self):
        ringing = rung(8)
        # ann is told and calls dan; bob is told.
        ringing.join("new", "ann", 3)
        self.assertEqual(ringing.line("ann"), row("new"))
        ringing.move("new", "bob")
        self.assertEqual((ringing.line("ann"), ringing.line("bob")), ([], row("new")))
        ringing.move("new", "dan")
        # dan is called for the first time: who stands under him waits.
        self.assertEqual((ringing.line("bob"), ringing.standing("fire", "new")), ([], "waiting"))

    def test_who_was_called_stands_as_ahead(self):
        ringing = rung(4)
        self.assertEqual(ringing.standing("fire", "bob"), "called")
        ringing.move("bob", "eve")
        self.assertEqual((ringing.standing("fire", "bob"), ringing.line()), ("called", []))
        ringing.go(4)
        self.assertEqual(ringing.standing("fire", "bob"), "told")
        ringing.move("bob", "", 0)
        self.assertEqual((ringing.standing("fire", "bob"), ringing.line()), ("told", []))
        ringing = rung(2, ("ann",))
        ringing.move("ann", "bob")
        self.assertEqual((ringing.standing("fire", "ann"), ringing.line()), ("missed", row("cid", "dan", "bob")))
        ringing.come_back("ann")
        self.assertEqual(ringing.line(), row("cid", "dan", "bob", "ann"))
        # In line for the second time: she was called, so she stays where she is.
        ringing.move("ann", "", 0)
        self.assertEqual(ringing.line(), row("cid", "dan", "bob", "ann"))

    def test_a_list_told_later_has_only_those_who_wait(self):
        ringing = rung(8)
        ringing.move("bob", "dan")
        ringing.move("eve", "dan")
        self.assertEqual(ringing.standing("fire", "eve"), "called")
        ringing.go(4)
        self.assertEqual((ringing.standing("fire", "dan"), ringing.line("dan")), ("told", []))

    def test_each_happening_by_itself(self):
        ringing = rung(8)
        ringing.ring("flood")
        self.assertEqual(ringing.line(), [("flood", "ann"), ("flood", "bob")])
        ringing.move("bob", "")
        self.assertEqual(ringing.standing("fire", "bob"), "told")
        ringing.move("ann", "bob")
        self.assertEqual((ringing.standing("fire", "ann"), ringing.standing("flood", "ann")), ("told", "waiting"))
        self.assertEqual(ringing.line(), [("flood", "bob")])


class WhoComesBack(unittest.TestCase):
    def test_missed(self):
        ringing = rung(2, ("ann",))
        ringing.come_back("ann")
        self.assertEqual((ringing.standing("fire", "ann"), ringing.missed("fire")), ("in line", []))
        self.assertEqual(ringing.line(), row("cid", "dan", "bob", "ann"))

    def test_waiting_or_in_line(self):
        ringing = rung(0, ("ann", "cid"))
        ringing.come_back("ann")
        ringing.come_back("cid")
        self.assertEqual((ringing.line(), ringing.standing("fire", "cid")), (row("ann", "bob"), "waiting"))
        ringing.go()
        self.assertEqual(ringing.going(), [(0, 3, "", "ann", True, "fire")])

    def test_told(self):
        ringing = rung(3)
        ringing.go_away("ann")
        self.assertEqual((ringing.line("ann"), ringing.line()), ([], row("bob", "cid", "dan")))
        ringing.come_back("ann")
        self.assertEqual((ringing.line("ann"), ringing.line()), ([], row("bob", "cid", "dan")))
        # She is her own HOLDER again.
        ringing.join("new", "ann", 3)
        self.assertEqual(ringing.line("ann"), row("new"))

    def test_to_the_holder(self):
        # ann missed cid; ann went away: who is missed comes to the BELL's LINE.
        ringing = rung(5, ("cid",))
        self.assertEqual(ringing.line("ann"), row("eve", "dan"))
        ringing.go_away("ann")
        self.assertEqual(ringing.line(), row("eve", "dan"))
        ringing.come_back("cid")
        self.assertEqual(ringing.line(), row("eve", "dan", "cid"))
        # Had she not, it would be ann's.
        ringing = rung(5, ("cid",))
        ringing.come_back("cid")
        self.assertEqual(ringing.line("ann"), row("eve", "dan", "cid"))

    def test_each_happening_in_the_order_rung(self):
        ringing = Ringing(HOUSE, ("ann",))
        ringing.ring("zeal")
        ringing.ring("alarm")
        ringing.till_quiet()
        self.assertEqual((ringing.missed("zeal"), ringing.missed("alarm")), (["ann"], ["ann"]))
        ringing.come_back("ann")
        self.assertEqual(ringing.line(), [("zeal", "ann"), ("alarm", "ann")])

    def test_there_and_away_again_while_it_rings(self):
        ringing = rung(1, ("ann",))
        ringing.come_back("ann")
        with self.assertRaises(Busy) as caught:
            ringing.go_away("ann")
        self.assertEqual((caught.exception.name, caught.exception.until), ("ann", 2))

    def test_talk_and_wait_as_they_are_when_it_begins(self):
        ringing = rung(0, ("bob",))
        ringing.go(1)
        ringing.set_talk("ann", 60)
        ringing.set_wait(9)
        self.assertEqual(ringing.going(), [(0, 3, "", "ann", True, "fire")])
        ringing.go(3)
        self.assertEqual(ringing.going()[0], (3, 12, "", "bob", False, "fire"))
        ringing.set_wait(1)
        ringing.set_talk("dan", 1)
        ringing.go(4)
        self.assertEqual(ringing.told("fire"), [(3, "ann"), (7, "cid"), (8, "dan")])
        self.assertEqual(ringing.going()[0], (3, 12, "", "bob", False, "fire"))


class WhoseLineIsHandedOn(unittest.TestCase):
    def test_of_one_who_goes_away(self):
        ringing = rung(3)
        ringing.go_away("ann")
        self.assertEqual((ringing.line("ann"), ringing.line()), ([], row("bob", "cid", "dan")))
        ringing.till_quiet()
        self.assertEqual(ringing.chain("fire", "cid"), [(0, ""), (12, "cid")])

    def test_of_one_who_leaves(self):
        ringing = rung(3)
        ringing.leave("ann")
        self.assertEqual(ringing.line(), row("bob", "cid", "dan"))
        self.assertEqual(ringing.told("fire"), [(3, "ann")])

    def test_each_row_by_its_happening(self):
        # dan is told of the fire by the BELL, of the flood by ann, and has rows of both when he goes away.
        tree = (1, 0, (("ann", "", 1), ("dan", "", 1), ("low", "dan", 30), ("lower", "dan", 9)))
        ringing = rung(2, None, tree)
        ringing.move("dan", "ann")
        ringing.set_talk("low", 1)
        ringing.ring("flood")
        ringing.go_away("low")
        ringing.set_wait(3)
        # dan calls low in vain till 5, ann is told at 3 and calls dan as soon as he is on no phone.
        ringing.go(3)
        self.assertEqual((ringing.line("dan"), ringing.line("ann")), (row("lower"), [("flood", "dan")]))
        ringing.go(1)
        self.assertEqual(ringing.told("flood"), [(3, "ann"), (6, "dan")])
        self.assertEqual(ringing.line("dan"), [("fire", "lower"), ("flood", "low"), ("flood", "lower")])
        ringing.go_away("dan")
        self.assertEqual(ringing.line(), [("fire", "lower")])
        self.assertEqual(ringing.line("ann"), [("flood", "low"), ("flood", "lower")])

    def test_to_a_holder_who_is_there(self):
        # cid was told by ann, and ann went away: cid's LINE goes to the BELL.
        tree = (1, 0, (("ann", "", 1), ("bob", "", 60), ("cid", "ann", 1), ("dan", "cid", 9), ("eve", "cid", 9)))
        ringing = rung(2, None, tree)
        ringing.go_away("ann")
        ringing.go_away("cid")
        self.assertEqual(ringing.line(), row("dan", "eve"))
        ringing.come_back("cid")
        ringing.come_back("ann")
        self.assertEqual((ringing.line(), ringing.line("ann"), ringing.line("cid")), (row("dan", "eve"), [], []))

    def test_the_by_of_those_whose_by_has_left(self):
        tree = (1, 0, (("ann", "", 1), ("bob", "", 60), ("cid", "ann", 1), ("dan", "cid", 9), ("eve", "cid", 9)))
        ringing = rung(2, None, tree)
        ringing.leave("ann")
        self.assertEqual(ringing.line("cid"), row("dan", "eve"))
        ringing.go_away("cid")
        self.assertEqual(ringing.line(), row("dan", "eve"))
        # Who told whom stays as it was.
        self.assertEqual(ringing.chain("fire", "cid"), [(0, ""), (1, "ann"), (2, "cid")])
        self.assertEqual(ringing.chain("fire", "ann"), [(0, ""), (1, "ann")])
        ringing.join("new", "cid", 3)
        self.assertEqual(ringing.line(), row("dan", "eve", "new"))

    def test_by_of_one_that_was_missed_by_one_who_left(self):
        tree = (1, 0, (("ann", "", 1), ("bob", "", 60), ("cid", "ann", 1), ("dan", "cid", 9)))
        ringing = rung(2, ("cid",), tree)
        self.assertEqual((ringing.missed("fire"), ringing.line("ann")), (["cid"], row("dan")))
        ringing.leave("ann")
        self.assertEqual(ringing.line(), row("dan"))
        ringing.come_back("cid")
        self.assertEqual(ringing.line(), row("dan", "cid"))

    def test_who_has_no_line(self):
        ringing = rung(3)
        ringing.go_away("cid")
        ringing.go_away("eve")
        ringing.leave("eve")
        self.assertEqual((ringing.line(), ringing.line("ann")), (row("bob"), row("cid", "dan")))


class WhoLeavesInLine(unittest.TestCase):
    def test_never_called(self):
        ringing = rung()
        ringing.leave("ann")
        # Those of the LIST come into the place.
        self.assertEqual(ringing.line(), row("cid", "dan", "bob"))
        self.assertEqual([each[:2] for each in ringing.tree()[2]], [("cid", ""), ("eve", "cid"), ("dan", ""), ("bob", "")])
        ringing.leave("dan")
        self.assertEqual(ringing.line(), row("cid", "bob"))
        ringing.leave("cid")
        self.assertEqual(ringing.line(), row("eve", "bob"))

    def test_in_the_middle_of_a_line(self):
        ringing = rung(3)
        ringing.join("new", "ann", 3)
        ringing.move("bob", "ann")
        ringing.join("low", "new", 3)
        ringing.join("lower", "new", 3)
        self.assertEqual(ringing.line("ann"), row("cid", "dan", "new", "bob"))
        ringing.leave("new")
        self.assertEqual(ringing.line("ann"), row("cid", "dan", "low", "lower", "bob"))

    def test_only_those_who_wait(self):
        # bob was told of the fire: so he doesn't come into the place of new, under whom he stands.
        ringing = rung(8)
        ringing.join("new", "ann", 4)
        ringing.join("low", "new", 4)
        ringing.move("bob", "new", 0)
        self.assertEqual(ringing.line("ann"), row("new"))
        ringing.leave("new")
        self.assertEqual(ringing.line("ann"), row("low"))
        self.assertEqual(ringing.standing("fire", "bob"), "told")

    def test_called_once_and_in_line_again(self):
        ringing = rung(2, ("ann",))
        ringing.come_back("ann")
        self.assertEqual(ringing.line(), row("cid", "dan", "bob", "ann"))
        ringing.leave("ann")
        self.assertEqual(ringing.line(), row("cid", "dan", "bob"))

    def test_waiting(self):
        ringing = rung()
        ringing.leave("cid")
        self.assertEqual((ringing.line(), ringing.standing("fire", "eve")), (row("ann", "bob"), "waiting"))
        ringing.till_quiet()
        self.assertEqual(ringing.chain("fire", "eve")[-2:], [(3, "ann"), (5, "eve")])

    def test_each_happening_by_itself(self):
        ringing = rung(3)
        ringing.ring("flood")
        self.assertEqual(ringing.line(), [("fire", "bob"), ("flood", "ann"), ("flood", "bob")])
        ringing.leave("ann")
        # Of the fire she was told, and hands on her LINE; of the flood she was in line.
        self.assertEqual(ringing.line(), [("fire", "bob"), ("flood", "cid"), ("flood", "dan"), ("flood", "bob"),
                                          ("fire", "cid"), ("fire", "dan")])

    def test_who_is_away_and_leaves(self):
        ringing = rung(0, ("ann", "bob"))
        ringing.leave("ann")
        self.assertEqual((ringing.away(), ringing.line()), (("bob",), row("cid", "dan", "bob")))


class MixedStories(unittest.TestCase):
    """Deeds at any time, each held against a model that goes by single minutes."""

    def go_through(self, seed, many_people, many_deeds=45):
        dice, tree, away, steps = mixed_story(seed, many_deeds, many_people, 0.6)
        ringing, model = Ringing(tree, away), Model(tree, away)
        done = []
        for is_deed in steps:
            if not is_deed:
                minutes = dice.randint(1, 4)
                ringing.go(minutes)
                model.go(minutes)
            else:
                deed = some_deed(dice, model)
                if deed is not None and not (deed[0] == "join" and len(model.walk()) == 16):
                    done.append(self.do(ringing, model, deed))
            self.assertEqual(all_asked(ringing), all_told(model), seed)
        self.at_last(ringing, model)
        return done

    def do(self, ringing, model, deed):
        until = on_phone(model, deed[1]) if deed[0] in ("leave", "go_away") else None
        if until is None:
            self.assertIsNone(getattr(ringing, deed[0])(*deed[1:]))
            done_by_model(model, deed)
            self.assertEqual(ringing.deeds()[-1], (model.now,) + deed)
            return deed[0]
        kept = all_asked(ringing), ringing.deeds()
        with self.assertRaises(Busy) as caught:
            getattr(ringing, deed[0])(*deed[1:])
        self.assertEqual((caught.exception.name, caught.exception.until), (deed[1], until))
        self.assertEqual((all_asked(ringing), ringing.deeds()), kept)
        return "busy"

    def at_last(self, ringing, model):
        happenings = [each for _, each in ringing.happenings()]
        forecasts = [ringing.forecast(each) for each in happenings]
        ringing.till_quiet()
        while not model.is_quiet():
            model.go()
        self.assertEqual(all_asked(ringing), all_told(model))
        self.assertEqual([ringing.told(each) for each in happenings], forecasts)
        for each in happenings:
            for name, _, _ in ringing.tree()[2]:
                answered = [call for call in ringing.calls() if call[3:] == (name, True, each)]
                self.assertEqual(len(answered), 1 if ringing.standing(each, name) == "told" else 0)
                self.assertIs(ringing.standing(each, name) == "told" or name in ringing.away(), True)

    def test_small_trees(self):
        done = []
        for seed in range(60):
            done += self.go_through(seed, seed % 7)
        for word in ("ring", "join", "leave", "move", "set_talk", "set_wait", "go_away", "come_back", "busy"):
            self.assertGreater(done.count(word), 20, word)

    def test_sixteen(self):
        for seed in range(12):
            self.go_through(500 + seed, 16 - seed % 3, 60)


if __name__ == "__main__":
    unittest.main()
