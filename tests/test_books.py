"""Points [71] and [72]: BOOKs of ringings, written and read."""

import unittest
from random import Random

from ringdown.bookread import read_book
from ringdown.errors import BadRow, MissError, PhoneError, RingError
from ringdown.ringbook import book_text
from ringdown.ringing import Ringing
from tests.ringmodel import Model, all_asked, done_by_model, mixed_story, some_deed
from tests.samples import HUGE, NAMES, OTHER_KINDS, TREE, AlikeToAll, chain, flat, twofold

TREE_TEXT = "plan 3\ntree 2 0\nbob - 5\nann - 3\ncid ann 4\naway bob"
DEEDS = ("0:00 ring fire", "0:02 join new ann 7 1", "0:02 join newer - 1 0", "0:04 move newer new 0", "0:04 set_talk cid 60",
         "0:05 set_wait 9", "0:05 come_back bob", "1:05 go_away cid", "1:05 leave newer", "1:05 ring flood")
BOOK = "\n".join((TREE_TEXT,) + DEEDS + ("2:00 now",))
# Rows 1 to 6, then ten deeds from 7 to 16, and 17.
FIRST_DEED = 7


def made():
    ringing = Ringing((2, 0, (("bob", "", 5), ("ann", "", 3), ("cid", "ann", 4))), ("bob",))
    ringing.ring("fire")
    ringing.go(2)
    ringing.join("new", "ann", 7)
    ringing.join("newer", "", 1, 0)
    ringing.go(2)
    ringing.move("newer", "new")
    ringing.set_talk("cid", 60)
    ringing.go(1)
    ringing.set_wait(9)
    ringing.come_back("bob")
    ringing.go(60)
    ringing.go_away("cid")
    ringing.leave("newer")
    ringing.ring("flood")
    ringing.go(55)
    return ringing


def told_story(seed, many_people, many_deeds=40):
    """A list of what is done: deeds, and minutes that go by; with the tree and who is away at first."""
    dice, tree, away, steps = mixed_story(seed, many_deeds, many_people, 0.6)
    ringing, model = Ringing(tree, away), Model(tree, away)
    story = []
    for is_deed in steps:
        if not is_deed:
            step = ("go", dice.randint(1, 5))
            model.go(step[1])
        else:
            step = some_deed(dice, model)
            if step is None or not can_do(ringing, step):
                continue
            done_by_model(model, step)
        do(ringing, step)
        story.append(step)
    return tree, away, story


def can_do(ringing, step):
    try:
        do(ringing.copied(), step)
    except (RingError, PhoneError, MissError):
        return False
    return True


def do(ringing, step):
    getattr(ringing, step[0])(*step[1:])


class Refuses(unittest.TestCase):
    def refuse(self, text, row, word):
        with self.assertRaises(BadRow) as caught:
            read_book(text)
        self.assertEqual((caught.exception.row, caught.exception.word), (row, word), text)

    def refuse_row(self, number, row, word):
        """That row in the place of the one of that number."""
        rows = BOOK.split("\n")
        self.refuse("\n".join(rows[:number - 1] + [row] + rows[number:]), number, word)

    def refuse_before(self, number, row, word):
        """That row ahead of the one of that number."""
        rows = BOOK.split("\n")
        self.refuse("\n".join(rows[:number - 1] + [row] + rows[number - 1:]), number, word)


class Written(unittest.TestCase):
    def test_by_hand(self):
        self.assertEqual(book_text(Ringing()), "plan 0\ntree 1 0\naway\n0:00 now")
        self.assertEqual(book_text(made()), BOOK)
        self.assertEqual(book_text(ringing=made()), BOOK)

    def test_what_it_was_made_with_as_handed_in(self):
        ringing = Ringing(TREE, ("bob",))
        ringing.leave("ann")
        ringing.set_wait(7)
        self.assertEqual(book_text(ringing), "plan 6\ntree 2 0\nann - 3\nbob - 5\ncid ann 4\ndan ann 1\neve cid 2\nfay bob 6\n"
                                             "away bob\n0:00 leave ann\n0:00 set_wait 7\n0:00 now")

    def test_the_last_minute(self):
        ringing = Ringing()
        ringing.go(5999)
        self.assertEqual(book_text(ringing), "plan 0\ntree 1 0\naway\n99:59 now")
        self.assertEqual(read_book(book_text(ringing)).now(), 5999)

    def test_writing_changes_nothing(self):
        ringing = made()
        kept = all_asked(ringing), ringing.deeds()
        book_text(ringing)
        self.assertEqual((all_asked(ringing), ringing.deeds()), kept)


class ThereAndBack(unittest.TestCase):
    def hold(self, ringing):
        book = book_text(ringing)
        other = read_book(book)
        self.assertIs(type(other), Ringing)
        self.assertEqual(other, ringing)
        self.assertEqual(all_asked(other), all_asked(ringing))
        self.assertEqual((other.deeds(), other.first()), (ringing.deeds(), ringing.first()))
        for _, happening in ringing.happenings():
            self.assertEqual(other.forecast(happening), ringing.forecast(happening))
        self.assertEqual(book_text(other), book)
        return other

    def test_each_kind_of_deed(self):
        other = self.hold(made())
        self.assertEqual({row[1] for row in other.deeds()}, {"ring", "join", "leave", "move", "set_talk", "set_wait",
                                                             "go_away", "come_back"})
        self.assertEqual(read_book(text=BOOK), made())

    def test_nothing(self):
        self.hold(Ringing())

    def test_mixed_stories_cut_at_any_place(self):
        dice = Random(650)
        for seed in range(25):
            tree, away, story = told_story(650 + seed, seed % 8)
            ringing = Ringing(tree, away)
            cut = dice.randrange(len(story))
            for at, step in enumerate(story):
                do(ringing, step)
                if at == cut:
                    other = self.hold(ringing)
                elif at > cut:
                    do(other, step)
                    self.assertEqual(other, ringing)
            self.assertEqual(all_asked(self.hold(ringing)), all_asked(other))

    def test_one_story_cut_at_each_place(self):
        tree, away, story = told_story(699, 5)
        for cut in range(len(story)):
            ringing = Ringing(tree, away)
            for step in story[:cut]:
                do(ringing, step)
            other = self.hold(ringing)
            for step in story[cut:]:
                do(other, step)
                do(ringing, step)
            self.assertEqual((all_asked(other), other.deeds()), (all_asked(ringing), ringing.deeds()))

    def test_names_that_ever_were_there(self):
        ringing = Ringing(TREE)
        ringing.leave("fay")
        other = self.hold(ringing)
        with self.assertRaises(ValueError):
            other.join("fay", "", 3)

    def test_200_deeds(self):
        ringing = Ringing(flat(3))
        ringing.ring("fire")
        for at in range(199):
            ringing.set_wait(at % 60 + 1)
            if at % 4 == 0:
                ringing.go()
        other = self.hold(ringing)
        with self.assertRaises(ValueError):
            other.set_wait(1)
        rows = book_text(ringing).split("\n")
        self.assertEqual(len(rows), 6 + 200 + 1)
        with self.assertRaises(BadRow) as caught:
            read_book("\n".join(rows[:-1] + [rows[-2]] + rows[-1:]))
        self.assertEqual((caught.exception.row, caught.exception.word), (207, 2))

    def test_sixteen(self):
        for tree in (chain(16), flat(16), twofold(16)):
            ringing = Ringing(tree, NAMES[::4])
            for word in ("a", "b", "c", "d", "e", "f"):
                ringing.ring(word)
                ringing.go(3)
            self.hold(ringing)
            ringing.till_quiet()
            self.hold(ringing)

    def test_what_is_read_is_the_very_text(self):
        for rows in (["0:00 now"], ["0:00 ring a", "99:59 now"], ["1:00 set_wait 60", "1:00 set_wait 1", "1:00 now"]):
            text = "\n".join([TREE_TEXT] + rows)
            self.assertEqual(book_text(read_book(text)), text)


class Read(Refuses):
    def test_the_rows_of_the_plan(self):
        self.refuse_row(1, "plan 17", 2)
        self.refuse_row(1, "plan 2 ", 0)
        self.refuse_row(2, "tree 0 0", 2)
        for deep in (1, 2, 4, 5):
            self.refuse_row(2, f"tree 2 {deep}", 3)
        self.refuse_row(2, "tree 2 1 1", 3)
        self.refuse_row(2, "tree 2 0 1", 4)
        self.refuse_row(4, "ann zoe 3", 2)
        self.refuse_row(6, "away zoe", 2)
        self.refuse_row(6, "away bob ann", 3)

    def test_minutes(self):
        for word in ("0", "0:0", "00:00", "0:60", "100:00", "-0:00", "-", "ring", "1", "0:000", "0.00", "0:0x", "now"):
            self.refuse_row(FIRST_DEED, f"{word} ring fire", 1)
        # None ahead of the row ahead's.
        rows = BOOK.split("\n")
        self.refuse("\n".join(rows[:8] + ["0:01 join newer - 1 0"] + rows[9:]), 9, 1)
        self.refuse("\n".join(rows[:16] + ["1:04 now"]), 17, 1)
        self.refuse("\n".join(rows[:6] + ["0:01 ring fire", "0:00 now"]), 8, 1)
        self.assertEqual(read_book("\n".join(rows[:16] + ["1:05 now"])).now(), 65)

    def test_names_of_deeds(self):
        for row in ("0:00 rings fire", "0:00 Ring fire", "0:00 - fire", "0:00 set_deep 3", "0:00 go 3", "0:00 till_quiet",
                    "0:00 copied", "0:00 put_in_order last", "0:00 keep one", "0:00 fire ring", "0:00 told fire", "0:00 3"):
            self.refuse_row(FIRST_DEED, row, 2)
        self.refuse_row(FIRST_DEED, "0:00", 2)

    def test_what_is_handed(self):
        for row, word in (
            ("0:00 ring", 3), ("0:00 ring Fire", 3), ("0:00 ring -", 3), ("0:00 ring 3", 3), ("0:00 ring fire fire", 4),
            ("0:00 join", 3), ("0:00 join new", 4), ("0:00 join new ann", 5), ("0:00 join new ann 7", 6),
            ("0:00 join - ann 7 1", 3), ("0:00 join new Ann 7 1", 4), ("0:00 join new 3 7 1", 4), ("0:00 join new ann x 1", 5),
            ("0:00 join new ann 07 1", 5), ("0:00 join new ann 7 -", 6), ("0:00 join new ann 7 -1", 6),
            ("0:00 join new ann 7 100000", 6), ("0:00 join new ann 7 1 1", 7), ("0:00 leave", 3), ("0:00 leave -", 3),
            ("0:00 leave ann ann", 4), ("0:00 move ann", 4), ("0:00 move ann -", 5), ("0:00 move - ann 0", 3),
            ("0:00 move ann ann x", 5), ("0:00 move ann - 0 0", 6), ("0:00 set_talk ann", 4), ("0:00 set_talk ann -", 4),
            ("0:00 set_talk - 3", 3), ("0:00 set_talk 3 3", 3), ("0:00 set_talk ann 3 3", 5), ("0:00 set_wait", 3),
            ("0:00 set_wait ann", 3), ("0:00 set_wait 3 3", 4), ("0:00 go_away", 3), ("0:00 go_away -", 3),
            ("0:00 go_away ann ann", 4), ("0:00 come_back", 3), ("0:00 come_back 0", 3), ("0:00 come_back bob bob", 4),
        ):
            self.refuse_row(FIRST_DEED, row, word)

    def test_blanks(self):
        for number, row in enumerate(BOOK.split("\n"), start=1):
            self.refuse_row(number, " " + row, 0)
            self.refuse_row(number, row + " ", 0)
            self.refuse_row(number, row.replace(" ", "  ", 1) if " " in row else row + "  ", 0)
            self.refuse_row(number, "", 0)
            self.refuse_row(number, " ", 0)

    def test_what_the_ringing_refuses(self):
        for row in ("0:00 ring fire", "0:00 join ann - 3 0", "0:00 join new zoe 3 0", "0:00 join new - 0 0",
                    "0:00 join new - 61 0", "0:00 join new - 3 3", "0:00 join new ann 3 2", "0:00 leave zoe", "0:00 move zoe - 0",
                    "0:00 move ann zoe 0", "0:00 move ann ann 0", "0:00 move ann cid 0", "0:00 move ann - 2",
                    "0:00 set_talk zoe 3", "0:00 set_talk ann 0", "0:00 set_talk ann 61", "0:00 set_wait 0",
                    "0:00 set_wait 61", "0:00 go_away bob", "0:00 go_away zoe", "0:00 come_back ann", "0:00 come_back zoe"):
            self.refuse_before(FIRST_DEED + 1, row, 2)
        for row in ("0:01 leave bob", "0:03 go_away ann", "0:04 leave ann"):
            # On a phone by that minute.
            self.refuse_row(FIRST_DEED + 1, row, 2)
        self.refuse_before(16, "1:05 join newer - 3 0", 2)
        self.refuse_before(17, "1:05 ring fire", 2)

    def test_gone_on_to_that_minute_first(self):
        rows = BOOK.split("\n")[:7]
        # ann is called from 2 to 5.
        for minute, busy in ((1, False), (2, False), (3, True), (4, True), (5, False)):
            text = "\n".join(rows + [f"0:0{minute} go_away ann", "1:00 now"])
            if busy:
                self.refuse(text, 8, 2)
            else:
                self.assertEqual(read_book(text).away(), ("ann", "bob"))

    def test_rows_behind_now(self):
        for row in ("", "2:00 now", "2:00 ring more", " ", "anything", "away"):
            self.refuse(BOOK + "\n" + row, 18, 0)
        rows = BOOK.split("\n")
        self.refuse("\n".join(rows[:6] + ["0:00 now"] + rows[6:]), 8, 0)

    def test_rows_that_lack(self):
        rows = BOOK.split("\n")
        for many in range(1, 17):
            self.refuse("\n".join(rows[:many]), many + 1, 0)
        self.refuse("", 1, 0)
        self.refuse_row(17, "2:00 now now", 3)
        self.refuse_row(17, "2:00", 2)
        self.refuse_row(17, "now", 1)

    def test_no_texts(self):
        for thing in OTHER_KINDS + (AlikeToAll(), BOOK.encode(), [BOOK], HUGE, made()):
            if not isinstance(thing, str):
                self.refuse(thing, 0, 0)

    def test_each_row_left_out_or_twice_or_exchanged(self):
        """Whatever stands then is refused, or is the very text."""
        rows = BOOK.split("\n")
        refused = 0
        for at in range(len(rows)):
            others = [rows[:at] + rows[at + 1:], rows[:at] + [rows[at]] + rows[at:]]
            others += [rows[:at] + [rows[place]] + rows[at + 1:] for place in range(len(rows))]
            for place in range(at):
                others.append(rows[:place] + [rows[at]] + rows[place + 1:at] + [rows[place]] + rows[at + 1:])
            for other in others:
                refused += self.hold("\n".join(other))
        self.assertGreater(refused, 300)

    def test_each_word_left_out_or_put_in_or_otherwise(self):
        rows = [row.split(" ") for row in BOOK.split("\n")]
        refused = 0
        for at, words in enumerate(rows):
            for place in range(len(words) + 1):
                others = [words[:place] + words[place + 1:]]
                for word in ("?", "ann", "bob", "-", "0", "3", "99", "now", "0:05", "9:00", "leave", "away"):
                    others += [words[:place] + [word] + words[place:], words[:place] + [word] + words[place + 1:]]
                for other in others:
                    spoiled = rows[:at] + [other] + rows[at + 1:]
                    refused += self.hold("\n".join(" ".join(row) for row in spoiled))
        self.assertGreater(refused, 1000)

    def test_each_sign_cut_off(self):
        for many in range(len(BOOK)):
            self.hold(BOOK[:many])

    def hold(self, text):
        """Refused, at a row of it or the one behind the last; or read, and the very text again."""
        try:
            ringing = read_book(text)
        except BadRow as caught:
            self.assertTrue(1 <= caught.row <= text.count("\n") + 2)
            row = (text.split("\n") + [""])[caught.row - 1]
            self.assertTrue(0 <= caught.word <= len(row.split(" ")) + 1)
            return 1
        self.assertEqual(book_text(ringing), text)
        return 0


if __name__ == "__main__":
    unittest.main()
