"""Points [24] to [26]: which rows FOLLOW, what a TABLE ALLOWS, and PAPERs of the WORST that are handed in."""

import unittest
from random import Random

from ringdown.errors import BadAway, BadPaper, BadTree, NoName, OutOfPlace
from ringdown.worst import measure_of, worst
from ringdown.worstcheck import check_worst
from ringdown.worsttables import worst_paper, worst_table
from tests.samples import EMPTY, HUGE, NAMES, OTHER_KINDS, TREE, AlikeToAll, chain, flat, mixed_trees, twofold, with_deep
from tests.spotmodel import least_row, place_of_fault

ALONE = ("last", "quiet", "lost")
TWO = (5, 0, (("a", "", 3), ("b", "", 2)))
NO_NUMBERS = (None, True, False, "1", 1.0, -2, 100000, HUGE, -HUGE, (1,), AlikeToAll())


def questions(names):
    return [(which, "") for which in ALONE] + [("told", name) for name in names]


def changed(table, number, place, thing):
    """The TABLE with one thing of one row put otherwise."""
    row = table[number][:place] + (thing,) + table[number][place + 1:]
    return table[:number] + (row,) + table[number + 1:]


def with_number(table, number, place, count, thing):
    numbers = table[number][place]
    return changed(table, number, place, numbers[:count] + (thing,) + numbers[count + 1:])


class Held(unittest.TestCase):
    def refuse(self, place, *asked, **named):
        with self.assertRaises(BadPaper) as caught:
            check_worst(*asked, **named)
        self.assertEqual(caught.exception.place, place)


class LetBy(Held):
    def test_told_papers(self):
        for at, tree in enumerate(mixed_trees(6, 25, 21)):
            for which, name in questions(NAMES[at % 3:6:3]):
                many, sure = at % 7, NAMES[at % 4:at % 5]
                paper = worst_paper(tree, many, which, name, sure)
                most = worst(tree, many, which, name, sure)
                self.assertEqual(check_worst(tree, many, paper, which, name, sure), most)
                self.assertIs(type(check_worst(tree, many, paper, which, name, sure)), int)

    def test_no_people(self):
        for which in ALONE:
            self.assertEqual(check_worst(EMPTY, 4, ((), ()), which), 0)
        self.refuse(1, EMPTY, 4, ((), (("a", 0, (1,) * 5, (1,) * 5),)))
        self.refuse(0, EMPTY, 4, (("a",), ()))

    def test_by_names_of_arguments(self):
        paper = worst_paper(TWO, 1, "told", "b", ("a",))
        self.assertEqual(check_worst(tree=TWO, many=1, paper=paper, which="told", name="b", sure=("a",)), 5)

    def test_any_away_ones_of_that_measure(self):
        table = worst_table(TWO, 2)
        self.assertEqual(check_worst(TWO, 2, (("a",), table)), 7)
        self.refuse(3, TWO, 2, ((), table))
        self.refuse(3, TWO, 2, (("b",), table))
        self.refuse(3, TWO, 2, (("a", "b"), table))

    def test_a_table_of_more_than_are_away(self):
        # By nobody away the quiet minute of this tree is as late as by anybody: the table shows none is later.
        tree = (1, 0, (("a", "", 9), ("b", "a", 9)))
        self.assertEqual(check_worst(tree, 2, ((), worst_table(tree, 2, "quiet")), "quiet"), 18)


class Greater(Held):
    """Numbers that are too great but follow."""

    def test_one_that_nobody_comes_to(self):
        # Nobody is called from a sheet that shows one row of b's alone, so a great number there brings nothing.
        tree = (5, 2, (("a", "", 3), ("b", "", 2)))
        table = worst_table(tree, 1)
        self.assertEqual(table[0], ("b", 1, (2, 5), (2, 2)))
        for place, count in ((2, 0), (2, 1), (3, 0), (3, 1)):
            for number in (6, 50, 99999):
                self.assertEqual(check_worst(tree, 1, (("a",), with_number(table, 0, place, count, number))), 7)

    def test_last_of_a_list_held_longer(self):
        # How long the last of the bell's list is held puts nothing later.
        table = worst_table(TWO, 1)
        self.assertEqual(table[0], ("b", 0, (2, 5), (2, 2)))
        self.assertEqual(check_worst(TWO, 1, (("a",), with_number(table, 0, 2, 1, 99999))), 7)
        self.assertEqual(check_worst(TWO, 1, (("a",), with_number(table, 0, 2, 0, 99999))), 7)
        self.refuse(3, TWO, 1, (("a",), with_number(table, 1, 2, 1, 6)))

    def test_a_great_number_of_fewer_away_ones_counts_for_more(self):
        # a is held 9 by nobody away there, so it may be held 9 with b away, too.
        table = worst_table(TWO, 1)
        other = with_number(table, 1, 2, 0, 9)
        self.assertEqual(other[1], ("a", 0, (9, 5), (3, 3)))
        self.refuse(3, TWO, 1, (("a",), other))
        self.assertEqual(place_of_fault(TWO, other, 1, "last"), (None, 11))
        # Likewise below: b's 9 by nobody away make 12 for a there, whoever else is away.
        chained = (5, 0, (("a", "", 3), ("b", "a", 2)))
        table = worst_table(chained, 2)
        other = with_number(table, 0, 3, 0, 9)
        self.refuse(2, chained, 2, (("a",), other))
        self.refuse(2, chained, 2, (("a",), with_number(other, 1, 3, 0, 12)))
        higher = with_number(with_number(with_number(other, 1, 3, 0, 12), 1, 3, 1, 14), 1, 3, 2, 14)
        self.refuse(3, chained, 2, (("a",), higher))
        for count in (1, 2):
            self.refuse(2, chained, 2, (("a",), with_number(higher, 1, 3, count, 13)))

    def test_minus_one_is_no_minute(self):
        tree = (5, 0, (("a", "", 3), ("b", "", 2), ("c", "b", 1)))
        table = worst_table(tree, 1, "told", "c")
        self.assertEqual(table[2], ("a", 0, (3, 5), (-1, -1)))
        # A minute where none is told may be told, as long as it isn't later than the asked one's.
        for number in (0, 5, 11):
            for count in (0, 1):
                other = with_number(table, 2, 3, count, number)
                right = place_of_fault(tree, other, 1, "told", "c")
                most = worst(tree, 1, "told", "c")
                self.assertEqual(right[0], None)
                if right[1] == most:
                    self.assertEqual(check_worst(tree, 1, (("b",), other), "told", "c"), most)
                else:
                    self.refuse(4, tree, 1, (("b",), other), "told", "c")

    def test_the_asked_one_is_told_at_its_own_end(self):
        # Whatever is told of those below the asked one.
        tree = (5, 0, (("a", "", 3), ("b", "a", 2)))
        table = with_number(worst_table(tree, 1, "told", "a"), 0, 3, 1, 7)
        self.assertEqual(table[0], ("b", 0, (2, 5), (-1, 7)))
        self.assertEqual(check_worst(tree, 1, ((), table), "told", "a"), 3)

    def test_random_greater_numbers(self):
        dice = Random(31)
        let_by = 0
        for at, tree in enumerate(mixed_trees(5, 120, 22)):
            which, name = questions(NAMES[:5])[at % 8]
            many, sure = at % 4, NAMES[at % 5:at % 6]
            away, table = worst_paper(tree, many, which, name, sure)
            number = dice.randrange(len(table))
            place, count = dice.choice((2, 3)), dice.randrange(many + 1)
            worth = table[number][place][count] + dice.choice((1, 1, 2, 5, 40))
            table = with_number(table, number, place, count, worth)
            if at % 2:
                table = self.following(tree, table, number, many, which, name, sure)
            let_by += self.hold(tree, many, (away, table), which, name, sure)
        self.assertGreater(let_by, 20)

    def following(self, tree, table, number, many, which, name, sure):
        """The TABLE with the rows behind one of them as small as they may be."""
        rows = {row[:2]: row[2:] for row in table[:number + 1]}
        for row in table[number + 1:]:
            rows[row[:2]] = least_row(tree, rows, row[0], row[1], many, which, name, sure)
        return tuple(spot + rows[spot] for spot in rows)

    def hold(self, tree, many, paper, which, name, sure):
        """Whether the PAPER is let by, which is held against the SPOTs by all ways to part."""
        place, allowed = place_of_fault(tree, paper[1], many, which, name, sure)
        most = worst(tree, many, which, name, sure)
        if place is None and allowed == most:
            self.assertEqual(check_worst(tree, many, paper, which, name, sure), most)
            return 1
        self.refuse(len(paper[1]) + 1 if place is None else place, tree, many, paper, which, name, sure)
        return 0


class Spoiled(Held):
    def setUp(self):
        self.asked = []
        for tree in (with_deep(2), TREE, TWO, chain(3, 4, 1)):
            for which, name in questions([tree[2][1][0]]):
                self.asked.append((tree, 2, worst_paper(tree, 2, which, name), which, name))

    def test_no_pair(self):
        for tree, many, paper, which, name in self.asked:
            away, table = paper
            for thing in (None, (), (away,), (table,), (away, table, ()), [away, table], (away, list(table)),
                          (away, None), (away, {}), (away, "ab"), {0: away, 1: table}, AlikeToAll(), HUGE, True):
                self.refuse(None, tree, many, thing, which, name)

    def test_away_ones(self):
        for tree, many, (_, table), which, name in self.asked:
            first, second, *_ = sorted(row[0] for row in tree[2])
            for away in (None, [], [first], "", 0, True, {}, ("zoe",), (second, first), (first, first), ("",), (None,),
                         (True,), (["a"],), HUGE, AlikeToAll(), (AlikeToAll(),)):
                self.refuse(0, tree, many, (away, table), which, name)
                # Looked at ahead of the rows.
                self.refuse(0, tree, many, (away, ("none",)), which, name)

    def test_more_away_ones_than_asked_for(self):
        away, table = worst_paper(TREE, 2, "quiet")
        self.assertEqual(len(away), 2)
        self.refuse(0, TREE, 1, (away, worst_table(TREE, 1, "quiet")), "quiet")
        self.refuse(0, TREE, 0, (("ann",), worst_table(TREE, 0)))

    def test_away_ones_who_never_are(self):
        table = worst_table(TREE, 2, "last", "", ("bob", "cid"))
        self.refuse(0, TREE, 2, (("bob",), table), "last", "", ("bob", "cid"))
        self.refuse(0, TREE, 2, (("ann", "cid"), table), "last", "", ("bob", "cid"))
        self.refuse(0, TREE, 2, (("bob",), worst_table(TREE, 2, "told", "bob")), "told", "bob")
        for which in ALONE:
            self.refuse(0, TREE, 2, (("ann",), worst_table(TREE, 2, which, "", ("ann",))), which, "", ("ann",))

    def test_away_ones_by_whom_the_asked_one_is_not_told(self):
        tree = with_deep(1)
        self.assertIsNone(measure_of(tree, ("ann",), "told", "cid"))
        self.refuse(0, tree, 1, (("ann",), worst_table(tree, 1, "told", "cid")), "told", "cid")

    def test_a_row_lacks(self):
        for tree, many, (away, table), which, name in self.asked:
            for number in range(len(table)):
                self.refuse(number + 1, tree, many, (away, table[:number]), which, name)
                self.refuse(number + 1, tree, many, (away, table[:number] + table[number + 1:]), which, name)

    def test_one_too_many(self):
        for tree, many, (away, table), which, name in self.asked:
            for row in table + (None, (), ("",)):
                self.refuse(len(table) + 1, tree, many, (away, table + (row,)), which, name)
            for number, row in enumerate(table[:-1]):
                twice = table[:number + 1] + (row,) + table[number + 1:]
                self.refuse(number + 2, tree, many, (away, twice), which, name)

    def test_exchanged(self):
        for tree, many, (away, table), which, name in self.asked:
            for one in range(len(table)):
                for two in range(one):
                    rows = list(table)
                    rows[one], rows[two] = rows[two], rows[one]
                    self.refuse(two + 1, tree, many, (away, tuple(rows)), which, name)

    def test_no_rows(self):
        for tree, many, (away, table), which, name in self.asked:
            for number, row in enumerate(table):
                for thing in (None, (), list(row), row[:3], row + (0,), row[0], HUGE, AlikeToAll(), {}, True):
                    rows = table[:number] + (thing,) + table[number + 1:]
                    self.refuse(number + 1, tree, many, (away, rows), which, name)

    def test_another_name_or_sight(self):
        for tree, many, (away, table), which, name in self.asked:
            for number, row in enumerate(table):
                for thing in ("", "zoe", None, 0, [row[0]], AlikeToAll(), b"a"):
                    self.refuse(number + 1, tree, many, (away, changed(table, number, 0, thing)), which, name)
                sights = [row[1] + 1, row[1] - 1, None, "1", float(row[1]), bool(row[1]), (row[1],), AlikeToAll(), HUGE]
                for thing in sights:
                    self.refuse(number + 1, tree, many, (away, changed(table, number, 1, thing)), which, name)

    def test_other_tuples(self):
        for tree, many, (away, table), which, name in self.asked:
            for number, row in enumerate(table):
                for place in (2, 3):
                    for thing in (None, list(row[place]), row[place][:-1], row[place] + row[place][-1:], (), 5, HUGE,
                                  AlikeToAll(), "abc", {}):
                        self.refuse(number + 1, tree, many, (away, changed(table, number, place, thing)), which, name)

    def test_no_numbers_and_numbers_less(self):
        for tree, many, (away, table), which, name in self.asked:
            for number, row in enumerate(table):
                for place in (2, 3):
                    for count in range(many + 1):
                        less = (row[place][count] - 1, row[place][count] // 2) if row[place][count] > 0 else (-2,)
                        for thing in NO_NUMBERS + less:
                            rows = with_number(table, number, place, count, thing)
                            self.refuse(number + 1, tree, many, (away, rows), which, name)

    def test_allowed_more_or_less(self):
        for tree, many, (away, table), which, name in self.asked:
            # The first of the people stands last in the table, and in the bell's list.
            last = len(table) - 1
            raised = with_number(table, last, 3, many, table[last][3][many] + 1000)
            self.refuse(len(table) + 1, tree, many, (away, raised), which, name)
        self.refuse(3, TWO, 1, ((), worst_table(TWO, 1)))
        self.refuse(3, TWO, 0, ((), with_number(worst_table(TWO, 0), 0, 3, 0, 3)))

    def test_a_truth_for_one(self):
        tree = (1, 1, (("a", "", 1),))
        table = worst_table(tree, 1)
        self.assertEqual(table, (("a", 1, (1, 1), (1, 1)),))
        for place in (2, 3):
            for count in (0, 1):
                self.refuse(1, tree, 1, ((), with_number(table, 0, place, count, True)))
        self.refuse(1, tree, 1, ((), changed(table, 0, 1, True)))

    def test_by_another_question(self):
        paper = worst_paper(TREE, 2)
        self.refuse(1, TREE, 3, paper)
        self.refuse(1, TREE, 1, ((), paper[1]))
        self.refuse(1, with_deep(1), 2, paper)
        with self.assertRaises(BadPaper):
            check_worst(TREE, 2, paper, "quiet")

    def test_the_bounds_of_numbers(self):
        tree = flat(2, 5, 2, 3)
        paper = worst_paper(tree, 1)
        for number, right in ((99999, None), (100000, 1)):
            table = with_number(paper[1], 0, 2, 1, number)
            if right is None:
                self.assertEqual(check_worst(tree, 1, (paper[0], table)), worst(tree, 1))
            else:
                self.refuse(right, tree, 1, (paper[0], table))
        told = worst_paper(TWO, 1, "told", "b")
        self.assertEqual(told[1][1][3], (-1, -1))
        self.assertEqual(check_worst(TWO, 1, told, "told", "b"), 7)
        self.refuse(2, TWO, 1, (told[0], with_number(told[1], 1, 3, 0, -2)), "told", "b")


class Sixteen(Held):
    def test_trees_of_sixteen(self):
        for deep in (0, 1, 4):
            for tree in (chain(16, 5, deep), flat(16, 7, deep), twofold(16, 6, deep)):
                for which, name in questions(NAMES[15:]):
                    away, table = worst_paper(tree, 16, which, name)
                    self.assertEqual(
                        check_worst(tree, 16, (away, table), which, name), worst(tree, 16, which, name))
                    last = len(table)
                    row = table[-1]
                    self.refuse(last, tree, 16, (away, with_number(table, last - 1, 2, 16, row[2][16] - 1)), which, name)


class Refused(Held):
    def test_in_their_order(self):
        paper = worst_paper(TREE, 1)
        with self.assertRaises(BadTree) as caught:
            check_worst((1, 0, (("a", "", 1), ("a", "", 1))), -1, None, "none", "zoe", ("zoe",))
        self.assertEqual((caught.exception.part, caught.exception.number), ("people", 1))
        for many in (-1, 17, True, None, "1", HUGE, -HUGE, (1,)):
            with self.assertRaises(OutOfPlace):
                check_worst(TREE, many, None, "told", "zoe", ("zoe",))
        for which in ("none", None, True, 0, ["last"], HUGE):
            with self.assertRaises(OutOfPlace):
                check_worst(TREE, 1, None, which, "zoe", ("zoe",))
        for name in ("zoe", "", None, 0, HUGE, ("ann",)):
            with self.assertRaises(NoName):
                check_worst(TREE, 1, None, "told", name, ("zoe",))
        for name in ("ann", "zoe", None, 0, ()):
            with self.assertRaises(OutOfPlace):
                check_worst(TREE, 1, paper, "last", name, ("zoe",))
        for sure, number in ((("zoe",), 0), (["ann"], None), (("bob", "ann"), 1), (0, None)):
            with self.assertRaises(BadAway) as caught:
                check_worst(TREE, 1, None, "last", "", sure)
            self.assertEqual(caught.exception.number, number)

    def test_of_anything(self):
        for thing in OTHER_KINDS:
            with self.assertRaises(BadTree):
                check_worst(thing, 1, ((), ()))
            self.refuse(None, TREE, 1, thing)
            table = worst_table(TREE, 1)
            if thing != ():
                self.refuse(0, TREE, 1, (thing, table))
            self.refuse(1, TREE, 1, ((), (thing,) + table[1:]))


if __name__ == "__main__":
    unittest.main()
