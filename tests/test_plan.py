"""Points [63] to [67]: a plan, its deeds, what is kept, questions, what was changed and looked at."""

import unittest
from random import Random

from ringdown.changes import joined, left, moved, redeeped, retalked, rewaited
from ringdown.errors import BadAway, BadTree, NoMark, NoName, OutOfPlace, TooGreat, Twice
from ringdown.orders import in_order, soonest
from ringdown.places import best_places
from ringdown.plan import Plan
from ringdown.plantext import plan_text
from ringdown.rings import last_of, lost_names, quiet_of, ring_calls, told_minute
from ringdown.shapes import shape_numbers
from ringdown.tree import in_walk, names_of
from ringdown.worst import worst
from tests.minutes import calls_by_minutes, listed
from tests.samples import EMPTY, HUGE, OTHER_KINDS, TREE, AlikeToAll, Thing, chain, flat, mixed_trees, twofold, with_deep

ALL = AlikeToAll()
AWAY = ("bob", "dan")
NO_NAMES = (None, True, 0, "-", "Ann", "a b", "ninechars", ["ann"], ("ann",), b"ann", HUGE, Thing(), ALL, {})
WORDS = ("one", "two", "three", "four", "five", "six")


def minutes_by_hand(tree, away):
    return {call[3]: call[1] for call in calls_by_minutes(tree, away) if call[4]}


def changed_by_hand(ahead, behind):
    one, other = minutes_by_hand(*ahead), minutes_by_hand(*behind)
    return sorted((name, one.get(name), other.get(name)) for name in {*one, *other} if one.get(name) != other.get(name))


def stands(plan):
    return (plan.tree(), plan.away())


def all_of(plan):
    """All that a plan tells without being changed by it."""
    return stands(plan), plan.kept(), plan.changed(), plan.looked()


class Made(unittest.TestCase):
    def test_nothing(self):
        for plan in (Plan(), Plan(None), Plan(None, None), Plan(tree=None, away=()), Plan(EMPTY)):
            self.assertEqual(all_of(plan), ((EMPTY, ()), [], [], 0))
            self.assertEqual((len(plan), str(plan), repr(plan)), (0, "plan 0\ntree 1 0\naway", "Plan of 0, 0 away"))

    def test_in_walk_order_from_the_beginning(self):
        plan = Plan(TREE, AWAY)
        self.assertEqual(stands(plan), (in_walk(TREE), AWAY))
        self.assertNotEqual(plan.tree(), TREE)
        self.assertEqual((len(plan), repr(plan)), (6, "Plan of 6, 2 away"))
        self.assertEqual(str(plan), plan_text(in_walk(TREE), AWAY))
        self.assertEqual(Plan(tree=TREE, away=AWAY), plan)

    def test_refused(self):
        for thing in OTHER_KINDS + (ALL, (1, 0, (("a", "", 1), ("a", "", 1)))):
            if thing is not None:
                with self.assertRaises(BadTree):
                    Plan(thing, ("zoe",))
        for thing, number in ((("zoe",), 0), (["ann"], None), (("bob", "ann"), 1), (0, None), (ALL, None)):
            with self.assertRaises(BadAway) as caught:
                Plan(TREE, thing)
            self.assertEqual(caught.exception.number, number)
        with self.assertRaises(BadAway):
            Plan(None, ("ann",))

    def test_alike(self):
        self.assertIs(Plan(TREE, AWAY) == Plan(in_walk(TREE), AWAY), True)
        self.assertIs(Plan(TREE, AWAY) != Plan(in_walk(TREE), AWAY), False)
        for other in (Plan(TREE), Plan(TREE, ("bob",)), Plan(with_deep(1), AWAY), Plan(rewaited(TREE, 3), AWAY),
                      Plan(moved(TREE, "dan", "ann", 0), AWAY), Plan(retalked(TREE, "ann", 4), AWAY), Plan()):
            self.assertIs(Plan(TREE, AWAY) == other, False)
            self.assertIs(Plan(TREE, AWAY) != other, True)
        # Neither what is kept, nor what was done or asked.
        plan = Plan(TREE, AWAY)
        plan.keep("one")
        plan.worst(1)
        plan.set_wait(9)
        plan.set_wait(2)
        self.assertIs(plan == Plan(TREE, AWAY), True)
        for thing in OTHER_KINDS + (ALL, TREE, str(plan), (TREE, AWAY)):
            self.assertIs(plan == thing, False)
            self.assertIs(plan != thing, True)

    def test_kinds(self):
        plan = Plan(TREE, AWAY)
        self.assertEqual([type(each) for each in (plan.tree(), plan.away())], [tuple, tuple])
        self.assertEqual([type(each) for each in (plan.kept(), plan.calls(), plan.lost(), plan.changed())], [list] * 4)
        self.assertEqual([type(each) for each in (plan.last(), plan.quiet(), plan.worst(1), plan.looked(), len(plan))],
                         [int] * 5)
        self.assertEqual([type(each) for each in (str(plan), repr(plan))], [str, str])


class Deeds(unittest.TestCase):
    def check(self, tree, away):
        """Each deed of the plan tells what its function tells."""
        for name in names_of(tree):
            others = tuple(each for each in away if each != name)
            plan = Plan(tree, away)
            self.assertIsNone(plan.leave(name))
            self.assertEqual(stands(plan), (left(tree, name), others))
            for caller in ("",) + names_of(tree):
                plan = Plan(tree, away)
                try:
                    expected = moved(tree, name, caller, 0)
                except OutOfPlace:
                    with self.assertRaises(OutOfPlace):
                        plan.move(name, caller, 0)
                    expected = in_walk(tree)
                else:
                    self.assertIsNone(plan.move(name, caller, 0))
                self.assertEqual(stands(plan), (expected, away))
            plan = Plan(tree, away)
            self.assertIsNone(plan.set_talk(name, 17))
            self.assertEqual(stands(plan), (retalked(tree, name, 17), away))
            plan.join("new", name, 5)
            self.assertEqual(stands(plan), (joined(retalked(tree, name, 17), "new", name, 5), away))
            plan = Plan(tree, away)
            if name in away:
                self.assertIsNone(plan.come_back(name))
                self.assertEqual(stands(plan), (in_walk(tree), others))
            else:
                self.assertIsNone(plan.go_away(name))
                self.assertEqual(stands(plan), (in_walk(tree), tuple(sorted(away + (name,)))))

    def test_as_the_functions_tell(self):
        dice = Random(611)
        for tree in (TREE,) + tuple(mixed_trees(6, 12, 612)):
            self.check(tree, tuple(sorted(name for name in names_of(tree) if dice.random() < 0.4)))

    def test_numbers(self):
        plan = Plan(TREE, AWAY)
        self.assertIsNone(plan.set_wait(60))
        self.assertEqual(stands(plan), (rewaited(TREE, 60), AWAY))
        self.assertIsNone(plan.set_deep(4))
        self.assertEqual(stands(plan), (redeeped(rewaited(TREE, 60), 4), AWAY))

    def test_put_in_order_by_all_aims(self):
        for tree in tuple(mixed_trees(7, 20, 613)) + (TREE,):
            away = tuple(sorted(names_of(tree)))[::3]
            for which in ("last", "quiet", "sum"):
                plan = Plan(tree, away)
                self.assertIsNone(plan.put_in_order(which))
                self.assertEqual(stands(plan), (in_order(in_walk(tree), away, which), away))
                self.assertEqual(soonest(plan.tree(), away, which), soonest(tree, away, which))
            plan, other = Plan(tree, away), Plan(tree, away)
            plan.put_in_order()
            other.put_in_order(which="last")
            self.assertEqual(plan, other)

    def test_by_names_of_arguments(self):
        plan = Plan(TREE)
        plan.join(name="new", caller="ann", talk=3, place=0)
        plan.move(name="new", caller="bob", place=1)
        plan.join(name="newer", caller="", talk=3)
        plan.move(name="newer", caller="new")
        plan.set_talk(name="new", talk=9)
        plan.set_wait(wait=7)
        plan.set_deep(deep=2)
        plan.go_away(name="ann")
        plan.come_back(name="ann")
        plan.leave(name="newer")
        plan.keep(word="one")
        plan.put_back(word="one")
        plan.drop(word="one")
        self.assertEqual(stands(plan), (redeeped(rewaited(joined(TREE, "new", "bob", 9), 7), 2), ()))

    def test_who_joins_is_there_and_who_leaves_is_away_no_more(self):
        plan = Plan(TREE, AWAY)
        plan.leave("bob")
        self.assertEqual(plan.away(), ("dan",))
        plan.join("bob", "", 5)
        self.assertEqual(plan.away(), ("dan",))
        plan.go_away("bob")
        plan.go_away("ann")
        self.assertEqual(plan.away(), ("ann", "bob", "dan"))

    def test_refused_changes_nothing(self):
        plan = Plan(TREE, AWAY)
        plan.keep("one")
        plan.go_away("ann")
        plan.worst(1)
        kept = all_of(plan)
        cases = [(OutOfPlace, lambda: plan.join("Ann", "zoe", 0, -1)), (Twice, lambda: plan.join("ann", "zoe", 0, -1)),
                 (NoName, lambda: plan.join("new", "zoe", 0, -1)), (OutOfPlace, lambda: plan.join("new", "ann", 0, -1)),
                 (OutOfPlace, lambda: plan.join("new", "ann", 1, 3)), (NoName, lambda: plan.leave("zoe")),
                 (NoName, lambda: plan.move("zoe", "zed", -1)), (NoName, lambda: plan.move("ann", "zed", -1)),
                 (OutOfPlace, lambda: plan.move("ann", "eve", -1)), (OutOfPlace, lambda: plan.move("ann", "", 2)),
                 (NoName, lambda: plan.set_talk("zoe", 0)), (OutOfPlace, lambda: plan.set_talk("ann", 0)),
                 (OutOfPlace, lambda: plan.set_wait(61)), (OutOfPlace, lambda: plan.set_deep(5)),
                 (NoName, lambda: plan.go_away("zoe")), (OutOfPlace, lambda: plan.go_away("ann")),
                 (NoName, lambda: plan.come_back("zoe")), (OutOfPlace, lambda: plan.come_back("cid")),
                 (OutOfPlace, lambda: plan.put_in_order("first")), (NoMark, lambda: plan.put_back("two")),
                 (OutOfPlace, lambda: plan.keep("Two")), (NoMark, lambda: plan.drop("two"))]
        for kind, deed in cases:
            with self.assertRaises(kind):
                deed()
            self.assertEqual(all_of(plan), kept)
        full = Plan(flat(16))
        with self.assertRaises(TooGreat):
            full.join("new", "", 3)
        self.assertEqual(full, Plan(flat(16)))

    def test_of_anything(self):
        plan = Plan(TREE, AWAY)
        for name in NO_NAMES + ("", "zoe"):
            for deed in (plan.leave, plan.go_away, plan.come_back, lambda name: plan.set_talk(name, 0),
                         lambda name: plan.move(name, "zed")):
                with self.assertRaises(NoName) as caught:
                    deed(name)
                self.assertIs(caught.exception.name, name)
            with self.assertRaises(NoMark) as caught:
                plan.put_back(name)
            self.assertIs(caught.exception.word, name)
            with self.assertRaises(NoMark) as caught:
                plan.drop(name)
            self.assertIs(caught.exception.word, name)
        for name in NO_NAMES + ("",):
            with self.assertRaises(OutOfPlace):
                plan.keep(name)
            with self.assertRaises(OutOfPlace):
                plan.put_in_order(name)
        for thing in (0, 61, True, None, "3", HUGE, ALL, (3,)):
            with self.assertRaises(OutOfPlace):
                plan.set_wait(thing)
            if thing != 0 or thing is ALL:
                with self.assertRaises(OutOfPlace):
                    plan.set_deep(thing)
        self.assertEqual(all_of(plan), ((in_walk(TREE), AWAY), [], [], 0))


class Kept(unittest.TestCase):
    def test_put_back(self):
        plan = Plan(TREE, AWAY)
        self.assertIsNone(plan.keep("one"))
        plan.leave("ann")
        plan.go_away("eve")
        plan.set_deep(3)
        self.assertIsNone(plan.put_back("one"))
        self.assertEqual(stands(plan), (in_walk(TREE), AWAY))
        # It stays kept, and changes no more.
        plan.leave("bob")
        plan.put_back("one")
        self.assertEqual((stands(plan), plan.kept()), ((in_walk(TREE), AWAY), ["one"]))

    def test_six_words(self):
        plan = Plan(TREE)
        for at, word in enumerate(WORDS):
            plan.set_wait(at + 1)
            plan.keep(word)
        self.assertEqual(plan.kept(), sorted(WORDS))
        with self.assertRaises(TooGreat):
            plan.keep("seven")
        with self.assertRaises(OutOfPlace):
            plan.keep("Seven")
        # One of the six may be kept anew.
        plan.set_wait(50)
        plan.keep("one")
        for at, word in enumerate(WORDS):
            plan.put_back(word)
            self.assertEqual(plan.tree()[0], at + 1 if at else 50)
        plan.drop("two")
        self.assertEqual(plan.kept(), sorted(each for each in WORDS if each != "two"))
        with self.assertRaises(NoMark):
            plan.put_back("two")
        with self.assertRaises(NoMark):
            plan.drop("two")
        plan.keep("seven")
        self.assertEqual(len(plan.kept()), 6)

    def test_keeping_and_dropping_are_no_deeds(self):
        plan = Plan(TREE)
        plan.go_away("ann")
        changed = plan.changed()
        self.assertTrue(changed)
        plan.keep("one")
        plan.drop("one")
        self.assertEqual((plan.changed(), stands(plan)), (changed, (in_walk(TREE), ("ann",))))


class Questions(unittest.TestCase):
    def test_as_the_functions_tell(self):
        for tree in tuple(mixed_trees(6, 20, 621)) + (chain(5), twofold(16)):
            away = tuple(sorted(names_of(tree)))[::3]
            plan = Plan(tree, away)
            walked = in_walk(tree)
            self.assertEqual(plan.calls(), ring_calls(tree, away))
            for name in names_of(tree):
                self.assertEqual(plan.told(name), told_minute(tree, name, away))
            self.assertEqual((plan.last(), plan.quiet(), plan.lost()),
                             (last_of(tree, away), quiet_of(tree, away), lost_names(tree, away)))
            for which in ("last", "quiet", "sum"):
                self.assertEqual(plan.soonest(which), soonest(tree, away, which))
            self.assertEqual((plan.soonest(), plan.soonest(which="last")), (soonest(tree, away),) * 2)
            for which in ("last", "quiet", "lost"):
                for many in range(3):
                    self.assertEqual(plan.worst(many, which), worst(tree, many, which))
            name = names_of(tree)[-1]
            self.assertEqual(plan.worst(2, "told", name), worst(tree, 2, "told", name))
            self.assertEqual(plan.worst(many=2, which="told", name=name, sure=away), worst(tree, 2, "told", name, away))
            self.assertEqual(plan.worst(16), worst(tree, 16))
            if len(plan) < 16:
                self.assertEqual(plan.best_places(3), best_places(walked, 3))
                self.assertEqual(plan.best_places(talk=3, many=1), best_places(walked, 3, 1))
            self.assertEqual(stands(plan), (walked, away))

    def test_by_then(self):
        plan = Plan(TREE)
        plan.go_away("ann")
        plan.join("new", "eve", 7)
        tree = joined(TREE, "new", "eve", 7)
        self.assertEqual(plan.calls(), ring_calls(tree, ("ann",)))
        self.assertEqual(plan.told(name="new"), told_minute(tree, "new", ("ann",)))
        self.assertEqual(plan.worst(1), worst(tree, 1))

    def test_refused_likewise(self):
        plan = Plan(TREE, AWAY)
        for name in NO_NAMES + ("", "zoe"):
            with self.assertRaises(NoName) as caught:
                plan.told(name)
            self.assertIs(caught.exception.name, name)
            if name != "" or name is ALL:
                with self.assertRaises(OutOfPlace):
                    plan.worst(1, "last", name)
            with self.assertRaises(NoName):
                plan.worst(1, "told", name)
        for many in (-1, 17, True, None, "1", HUGE, ALL):
            with self.assertRaises(OutOfPlace):
                plan.worst(many, "told", "zoe", ("zoe",))
            with self.assertRaises(OutOfPlace):
                plan.best_places(3, many)
        for which in (None, "first", 0, ALL, ["last"]):
            with self.assertRaises(OutOfPlace):
                plan.soonest(which)
            with self.assertRaises(OutOfPlace):
                plan.worst(1, which, "zoe", ("zoe",))
        with self.assertRaises(BadAway) as caught:
            plan.worst(1, "last", "", ("ann", "zoe"))
        self.assertEqual(caught.exception.number, 1)
        with self.assertRaises(OutOfPlace):
            plan.best_places(61)
        with self.assertRaises(TooGreat):
            Plan(flat(16)).best_places(1)
        self.assertEqual(all_of(plan), ((in_walk(TREE), AWAY), [], [], 0))

    def test_the_askers_own(self):
        plan = Plan(with_deep(1), ("ann",))
        plan.keep("one")
        plan.go_away("bob")
        plan.worst(2)
        kept = all_of(plan)
        for ask in (plan.kept, plan.calls, plan.lost, plan.changed, lambda: plan.best_places(2)):
            told = ask()
            self.assertTrue(told)
            told.append("more")
            told.reverse()
            again = ask()
            told.clear()
            self.assertNotIn("more", again)
        self.assertEqual(all_of(plan), kept)


class Changed(unittest.TestCase):
    def test_by_hand(self):
        plan = Plan(TREE)
        self.assertEqual(plan.changed(), [])
        plan.go_away("ann")
        # ann no more; behind two minutes the BELL calls cid, dan and bob in her place.
        self.assertEqual(plan.changed(), [("ann", 3, None), ("bob", 8, 12), ("cid", 7, 6), ("dan", 8, 7), ("eve", 9, 8),
                                          ("fay", 14, 18)])
        plan.join("new", "", 4)
        self.assertEqual(plan.changed(), [("new", None, 16)])
        plan.leave("fay")
        self.assertEqual(plan.changed(), [("fay", 18, None)])
        plan.set_talk("new", 4)
        self.assertEqual(plan.changed(), [])
        plan.come_back("ann")
        self.assertEqual(plan.changed(), [("ann", None, 3), ("bob", 12, 8), ("cid", 6, 7), ("dan", 7, 8), ("eve", 8, 9),
                                          ("new", 16, 12)])

    def test_who_was_not_told_ahead_or_behind(self):
        plan = Plan(with_deep(1), ("ann",))
        # cid is lost, and leaves: told of neither ahead nor behind. So for one who is away.
        plan.leave("cid")
        self.assertEqual(plan.changed(), [])
        plan.leave("ann")
        self.assertEqual(plan.changed(), [("bob", 7, 8), ("dan", None, 3), ("eve", None, 2), ("fay", 13, 14)])

    def do_some(self, dice, plan, deeds):
        """A deed by chance; tells whether it was one that was done."""
        names = names_of(plan.tree())
        word = dice.choice(deeds)
        try:
            if word == "join":
                plan.join(dice.choice(("new", "xy", "ab")), dice.choice(("",) + names), dice.randint(1, 9))
            elif word == "move":
                plan.move(dice.choice(names), dice.choice(("",) + names))
            elif word == "leave":
                plan.leave(dice.choice(names))
            elif word == "away":
                name = dice.choice(names)
                (plan.come_back if name in plan.away() else plan.go_away)(name)
            elif word == "talk":
                plan.set_talk(dice.choice(names), dice.randint(1, 9))
            elif word == "number":
                dice.choice((plan.set_wait, plan.set_deep))(dice.randint(1, 4))
            elif word == "order":
                plan.put_in_order(dice.choice(("last", "quiet", "sum")))
            else:
                plan.put_back(dice.choice(plan.kept()))
        except (OutOfPlace, Twice):
            return False
        return True

    def test_behind_each_kind_of_deed(self):
        dice = Random(631)
        deeds = ("join", "move", "leave", "away", "talk", "number", "order", "back")
        for tree in mixed_trees(7, 15, 632):
            plan = Plan(tree, names_of(tree)[:1])
            plan.keep("one")
            told = []
            for _ in range(25):
                ahead = stands(plan)
                if not self.do_some(dice, plan, deeds if len(plan) > 2 else ("join", "back")):
                    self.assertEqual(stands(plan), ahead)
                    self.assertEqual(plan.changed(), told)
                    continue
                told = changed_by_hand(ahead, stands(plan))
                self.assertEqual(plan.changed(), told)
                plan.keep("two")
                plan.worst(1)
                plan.last()
                plan.copied()
                self.assertEqual(plan.changed(), told)

    def test_behind_which_all_is_as_it_was(self):
        plan = Plan(TREE)
        for deed in (lambda: plan.set_wait(2), lambda: plan.set_talk("ann", 3), lambda: plan.move("dan", "ann"),
                     lambda: plan.set_deep(0), lambda: plan.put_back("one")):
            plan.go_away("ann")
            plan.come_back("ann")
            plan.keep("one")
            self.assertTrue(plan.changed())
            deed()
            self.assertEqual((plan.changed(), plan.tree()), ([], in_walk(TREE)))

    def test_put_back_to_another_tree(self):
        plan = Plan(TREE)
        plan.keep("one")
        for name in ("fay", "eve", "dan", "cid", "bob", "ann"):
            plan.leave(name)
        plan.join("new", "", 9)
        plan.put_back("one")
        self.assertEqual(plan.changed(), [("ann", None, 3), ("bob", None, 8), ("cid", None, 7), ("dan", None, 8),
                                          ("eve", None, 9), ("fay", None, 14), ("new", 9, None)])

    def test_rising_with_none(self):
        plan = Plan((1, 0, (("b", "", 1), ("c", "b", 1))))
        plan.join("a", "", 1, 0)
        self.assertEqual(plan.changed(), [("a", None, 1), ("b", 1, 2), ("c", 2, 3)])


def shape_by_hand(tree, name):
    talk = [row[2] for row in tree[2] if row[0] == name][0]
    return (talk, tuple(shape_by_hand(tree, each) for each in listed(tree[2], name)))


class Looked(unittest.TestCase):
    def test_by_worst_of_anything(self):
        for ask in (lambda plan: plan.worst(0), lambda plan: plan.worst(16, "lost"), lambda plan: plan.worst(3, "quiet"),
                    lambda plan: plan.worst(1, "told", "ann"), lambda plan: plan.worst(1, "last", "", ("ann",))):
            plan = Plan(TREE, AWAY)
            ask(plan)
            self.assertEqual(plan.looked(), 6)
            ask(plan)
            self.assertEqual(plan.looked(), 6)

    def test_by_nothing_else(self):
        plan = Plan(TREE, AWAY)
        for ask in (plan.tree, plan.away, plan.calls, plan.last, plan.quiet, plan.lost, plan.soonest, plan.changed,
                    plan.looked, plan.copied, plan.kept, lambda: plan.told("ann"), lambda: plan.best_places(2, 1),
                    lambda: plan.keep("one"), lambda: plan.put_back("one"), lambda: plan.put_in_order("sum"),
                    lambda: plan.drop("one"), lambda: str(plan), lambda: repr(plan), lambda: plan == Plan()):
            ask()
            self.assertEqual(plan.looked(), 0)
        for wrong in (lambda: plan.worst(17), lambda: plan.worst(1, "first"), lambda: plan.worst(1, "last", "ann"),
                      lambda: plan.worst(1, "told"), lambda: plan.worst(1, "last", "", ("zoe",))):
            with self.assertRaises((OutOfPlace, NoName, BadAway)):
                wrong()
            self.assertEqual(plan.looked(), 0)

    def test_shapes_count_once(self):
        plan = Plan(flat(5))
        plan.worst(1)
        self.assertEqual(plan.looked(), 1)
        plan.set_talk("cc", 9)
        self.assertEqual(plan.looked(), 1)
        plan.worst(1)
        self.assertEqual(plan.looked(), 2)
        plan.move("cc", "aa")
        plan.worst(2)
        # aa with cc below it is one more.
        self.assertEqual(plan.looked(), 3)
        plan.move("cc", "", 0)
        plan.set_talk("cc", 3)
        plan.leave("bb")
        plan.join("new", "", 3)
        plan.go_away("new")
        plan.worst(3)
        self.assertEqual(plan.looked(), 3)

    def test_by_wait_and_deep(self):
        plan = Plan(flat(5, wait=2))
        plan.worst(1)
        plan.set_wait(3)
        plan.worst(1)
        plan.set_deep(1)
        plan.worst(1)
        self.assertEqual(plan.looked(), 3)
        plan.set_wait(2)
        plan.worst(1)
        self.assertEqual(plan.looked(), 4)
        plan.set_deep(0)
        plan.worst(1)
        self.assertEqual(plan.looked(), 4)

    def test_by_hand(self):
        dice = Random(641)
        plan, wanted = Plan(), set()
        for _ in range(400):
            names = names_of(plan.tree())
            try:
                def join():
                    plan.join(dice.choice("abcdef"), dice.choice(("",) + names), dice.randint(1, 2))
                dice.choice((join, join, join, lambda: plan.leave(dice.choice(names)), lambda: plan.move(dice.choice(names), ""),
                             lambda: plan.set_wait(dice.randint(1, 2)), lambda: plan.set_deep(dice.randint(0, 1))))()
            except (Twice, IndexError):
                pass
            if dice.random() < 0.4:
                plan.worst(1)
                tree = plan.tree()
                wanted |= {(tree[0], tree[1], shape_by_hand(tree, name)) for name in names_of(tree)}
            self.assertEqual(plan.looked(), len(wanted))
        self.assertGreater(len(wanted), 20)

    def test_nobody(self):
        plan = Plan()
        self.assertEqual((plan.worst(3), plan.looked()), (0, 0))

    def test_as_many_as_shapes(self):
        for tree in mixed_trees(9, 20, 642):
            plan = Plan(tree)
            plan.worst(1)
            self.assertEqual(plan.looked(), len(set(shape_numbers(tree))))


class Copies(unittest.TestCase):
    def test_all_of_it(self):
        plan = Plan(TREE, AWAY)
        plan.keep("one")
        plan.worst(1)
        plan.go_away("ann")
        plan.keep("two")
        other = plan.copied()
        self.assertIs(type(other), Plan)
        self.assertEqual((other, all_of(other)), (plan, all_of(plan)))
        self.assertTrue(other.changed())
        other.put_back("one")
        self.assertEqual(stands(other), (in_walk(TREE), AWAY))
        # What was WANTED ahead is WANTED in both.
        other.worst(2)
        self.assertEqual(other.looked(), 6)

    def test_on_their_own(self):
        plan = Plan(TREE, AWAY)
        plan.keep("one")
        plan.worst(1)
        plan.go_away("ann")
        for one, other in ((plan, plan.copied()), (plan.copied(), plan)):
            kept, ahead = all_of(other), all_of(one)
            one.keep("three")
            one.drop("one")
            one.set_wait(one.tree()[0] + 1)
            one.worst(1)
            one.leave("eve")
            one.keep("two")
            self.assertEqual(all_of(other), kept)
            self.assertNotEqual(all_of(one), ahead)

    def test_of_a_copy(self):
        plan = Plan(TREE)
        plan.go_away("ann")
        third = plan.copied().copied()
        self.assertEqual(all_of(third), all_of(plan))


class Sixteen(unittest.TestCase):
    def test_sixteen(self):
        for tree in (chain(16), flat(16), twofold(16), with_deep(2, twofold(16))):
            plan = Plan(tree, names_of(tree)[::5])
            self.assertEqual((len(plan), repr(plan)), (16, "Plan of 16, 4 away"))
            for which in ("last", "quiet", "sum"):
                plan.put_in_order(which)
            plan.worst(4)
            for name in names_of(tree):
                plan.leave(name)
            self.assertEqual((len(plan), plan.away(), repr(plan)), (0, (), "Plan of 0, 0 away"))


if __name__ == "__main__":
    unittest.main()
