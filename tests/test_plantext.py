"""Points [70] and [72]: TEXTs of plans, written and read."""

import unittest

from ringdown.errors import BadAway, BadRow, BadTree
from ringdown.plantext import plan_text, read_plan_text
from tests.samples import EMPTY, HUGE, NAMES, OTHER_KINDS, TREE, AlikeToAll, chain, flat, mixed_trees, subsets, twofold
from tests.samples import with_deep

TEXT = "plan 3\ntree 2 1\nann - 3\nbob ann 60\ncid - 5\naway ann cid"
PLAN = ((2, 1, (("ann", "", 3), ("bob", "ann", 60), ("cid", "", 5))), ("ann", "cid"))


class Refuses(unittest.TestCase):
    def refuse(self, text, row, word):
        with self.assertRaises(BadRow) as caught:
            read_plan_text(text)
        self.assertEqual((caught.exception.row, caught.exception.word), (row, word), text)

    def refuse_row(self, number, row, word):
        """That row in the place of the one of that number."""
        self.refuse(self.with_row(number, row), number, word)

    def with_row(self, number, row):
        rows = TEXT.split("\n")
        return "\n".join(rows[:number - 1] + [row] + rows[number:])


class Written(unittest.TestCase):
    def test_by_hand(self):
        self.assertEqual(plan_text(EMPTY), "plan 0\ntree 1 0\naway")
        self.assertEqual(plan_text(*PLAN), TEXT)
        self.assertEqual(plan_text(tree=PLAN[0], away=PLAN[1]), TEXT)
        self.assertEqual(plan_text(PLAN[0]), TEXT[:-8])
        self.assertEqual(plan_text(PLAN[0], None), plan_text(PLAN[0], ()))

    def test_people_as_they_stand(self):
        self.assertEqual(plan_text(TREE).split("\n")[2:], ["ann - 3", "bob - 5", "cid ann 4", "dan ann 1", "eve cid 2",
                                                           "fay bob 6", "away"])

    def test_refused(self):
        for thing in OTHER_KINDS + (AlikeToAll(), (1, 0, (("a", "", 1), ("a", "", 1)))):
            with self.assertRaises(BadTree):
                plan_text(thing, ("zoe",))
        for thing, number in ((("zoe",), 0), (["ann"], None), (("bob", "ann"), 1), (0, None), ("ann", None)):
            with self.assertRaises(BadAway) as caught:
                plan_text(TREE, thing)
            self.assertEqual(caught.exception.number, number)


class ThereAndBack(unittest.TestCase):
    def test_plans(self):
        for tree in tuple(mixed_trees(6, 20, 601)) + (EMPTY, chain(16), flat(16), twofold(16), with_deep(4)):
            names = [row[0] for row in tree[2]]
            for away in list(subsets(names[:3])) + [tuple(sorted(names))]:
                text = plan_text(tree, away)
                self.assertEqual(read_plan_text(text), (tree, away))
                self.assertEqual(plan_text(*read_plan_text(text=text)), text)

    def test_kinds(self):
        told = read_plan_text(TEXT)
        self.assertEqual(told, PLAN)
        self.assertEqual([type(each) for each in (told, *told, told[0][2]) + told[0][2]], [tuple] * 7)


class Read(Refuses):
    def test_the_first_row(self):
        for row, word in (("", 0), (" plan 3", 0), ("plan 3 ", 0), ("plan  3", 0), ("plam 3", 1), ("3 plan", 1), ("plan", 2),
                          ("plan x", 2), ("plan 17", 2), ("plan 03", 2), ("plan -1", 2), ("plan 100000", 2), ("plan 3 3", 3),
                          ("plan 3.", 2), ("Plan 3", 1), ("tree 2 1", 1), ("plan ann", 2)):
            self.refuse_row(1, row, word)

    def test_the_trees_row(self):
        for row, word in (("", 0), ("tree 2", 3), ("tree", 2), ("tree 2 5", 3), ("tree 0 1", 2), ("tree 61 1", 2),
                          ("tree 2 1 1", 4), ("ann - 3", 1), ("plan 3", 1), ("tree 2 1 ", 0), ("tree 2 04", 3)):
            self.refuse_row(2, row, word)

    def test_the_rows_of_people(self):
        for number, row, word in ((3, "", 0), (3, "ann", 2), (3, "ann -", 3), (3, "ann - 0", 3), (3, "ann - 61", 3),
                                  (3, "ann - 3 3", 4), (3, "ann bob 3", 2), (3, "Ann - 3", 1), (3, " ann - 3", 0),
                                  (4, "ann - 3", 1), (4, "bob zoe 3", 2), (4, "bob bob 3", 2), (4, "bob  ann 3", 0),
                                  (5, "away", 2), (5, "away ann", 3), (5, "cid bob x", 3)):
            self.refuse_row(number, row, word)

    def test_one_who_is_called_like_a_row(self):
        text = "plan 4\ntree 1 0\naway - 3\ntree away 3\nplan - 1\nnow - 2\naway away tree"
        self.assertEqual(plan_text(*read_plan_text(text)), text)
        # away stands in the place of cid: so cid isn't there to be AWAY.
        self.refuse(self.with_row(5, "away - 3"), 6, 3)

    def test_the_row_of_the_away_ones(self):
        for row, word in (("", 0), ("away ", 0), (" away", 0), ("away  ann", 0), ("awa ann", 1), ("ann cid", 1), ("Away", 1),
                          ("away zoe", 2), ("away -", 2), ("away cid ann", 3), ("away ann ann", 3), ("away ann bob zed", 4),
                          ("away ann bob bob", 4), ("away Ann", 2), ("away 3", 2), ("away away", 2)):
            self.refuse_row(6, row, word)
        for row in ("away", "away ann", "away ann bob cid", "away bob"):
            rows = TEXT.split("\n")[:5] + [row]
            self.assertEqual(read_plan_text("\n".join(rows))[1], tuple(row.split(" ")[1:]))

    def test_more_or_fewer_people_than_told(self):
        rows = TEXT.split("\n")
        self.refuse("\n".join(["plan 2"] + rows[1:]), 5, 1)
        self.refuse("\n".join(["plan 4"] + rows[1:]), 6, 3)
        self.refuse("\n".join(["plan 4"] + rows[1:5] + ["away"]), 6, 2)
        self.refuse("\n".join(["plan 0"] + rows[1:]), 3, 1)

    def test_rows_that_lack(self):
        rows = TEXT.split("\n")
        for many in range(1, 6):
            self.refuse("\n".join(rows[:many]), many + 1, 0)
        self.refuse("", 1, 0)

    def test_rows_behind_away(self):
        for row in ("", "away", "0:00 now", " ", "ann - 3", "anything"):
            self.refuse(TEXT + "\n" + row, 7, 0)
        self.refuse(TEXT + "\n\n\n", 7, 0)
        self.refuse("\n" + TEXT, 1, 0)

    def test_sixteen(self):
        text = plan_text(flat(16), NAMES)
        self.assertEqual(read_plan_text(text), (flat(16), NAMES))
        rows = text.split("\n")
        self.refuse("\n".join(["plan 17"] + rows[1:]), 1, 2)
        self.refuse("\n".join(rows[:18] + ["new - 3"] + rows[18:]), 19, 1)

    def test_no_texts(self):
        for thing in OTHER_KINDS + (AlikeToAll(), TEXT.encode(), [TEXT], HUGE):
            if not isinstance(thing, str):
                self.refuse(thing, 0, 0)


class EachPlace(Refuses):
    """A row or a word left out, put in, twice, otherwise, exchanged, cut off, at each place."""

    def test_a_word_left_out(self):
        expected = {(1, 1): 1, (1, 2): 2, (2, 1): 1, (2, 2): 3, (2, 3): 3, (3, 1): 1, (3, 2): 2, (3, 3): 3, (4, 1): 1,
                    (4, 2): 2, (4, 3): 3, (5, 1): 1, (5, 2): 2, (5, 3): 3, (6, 1): 1}
        rows = [row.split(" ") for row in TEXT.split("\n")]
        for (number, place), word in expected.items():
            row = rows[number - 1][:place - 1] + rows[number - 1][place:]
            self.refuse_row(number, " ".join(row), word)

    def test_a_word_put_in_or_twice(self):
        rows = [row.split(" ") for row in TEXT.split("\n")]
        for number, words in enumerate(rows, start=1):
            for place in range(1, len(words) + 1):
                self.refuse_row(number, " ".join(words[:place - 1] + ["?"] + words[place - 1:]), place)
            self.refuse_row(number, " ".join(words + ["?"]), len(words) + 1)
            self.refuse_row(number, " ".join(words + [words[-1]]), len(words) + 1)

    def test_a_row_left_out(self):
        rows = TEXT.split("\n")
        for number, (row, word) in ((1, (1, 1)), (2, (2, 1)), (3, (3, 2)), (4, (5, 3)), (5, (5, 3)), (6, (6, 0))):
            self.refuse("\n".join(rows[:number - 1] + rows[number:]), row, word)

    def test_a_row_twice(self):
        rows = TEXT.split("\n")
        for number, (row, word) in ((1, (2, 1)), (2, (3, 2)), (3, (4, 1)), (4, (5, 1)), (5, (6, 1)), (6, (7, 0))):
            self.refuse("\n".join(rows[:number] + rows[number - 1:]), row, word)

    def test_rows_exchanged(self):
        rows = TEXT.split("\n")
        for one, other, row, word in ((1, 2, 1, 1), (1, 6, 1, 1), (2, 3, 2, 1), (3, 4, 3, 2), (2, 6, 2, 1), (5, 6, 5, 3)):
            spoiled = list(rows)
            spoiled[one - 1], spoiled[other - 1] = rows[other - 1], rows[one - 1]
            self.refuse("\n".join(spoiled), row, word)
        # Where it can stand, it is another TREE.
        spoiled = rows[:3] + [rows[4], rows[3]] + rows[5:]
        self.assertEqual(read_plan_text("\n".join(spoiled))[0][2], (PLAN[0][2][0], PLAN[0][2][2], PLAN[0][2][1]))

    def test_cut_off(self):
        for many in range(len(TEXT)):
            text = TEXT[:many]
            if text.endswith("away") or text.endswith("away ann"):
                self.assertEqual(read_plan_text(text)[0], PLAN[0])
            else:
                with self.assertRaises(BadRow) as caught:
                    read_plan_text(text)
                self.assertIn(caught.exception.row, (text.count("\n") + 1, text.count("\n") + 2))


if __name__ == "__main__":
    unittest.main()
