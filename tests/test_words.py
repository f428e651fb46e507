"""Point [1]: names, numbers, minutes, rows."""

import unittest

from ringdown.errors import OutOfPlace
from ringdown.words import clock_text, is_among, is_name, is_whole, minute_of, number_of, words_of
from tests.samples import HUGE, OTHER_KINDS


class Whole(unittest.TestCase):
    def test_whole_numbers(self):
        for thing in (0, 1, -1, 5999, HUGE, -HUGE):
            self.assertIs(is_whole(thing), True)

    def test_truths_are_none(self):
        self.assertIs(is_whole(True), False)
        self.assertIs(is_whole(False), False)

    def test_other_kinds(self):
        for thing in (None, "1", "", b"1", 1.0, [1], (1,), {1: 1}, {1}, int):
            self.assertIs(is_whole(thing), False, thing)

    def test_among(self):
        for thing, good in ((0, False), (1, True), (5, True), (60, True), (61, False), (-1, False), (HUGE, False)):
            self.assertIs(is_among(thing, 1, 60), good)
        self.assertIs(is_among(4, 4, 4), True)
        self.assertIs(is_among(4, 5, 3), False)
        self.assertIs(is_among(HUGE, 0, HUGE), True)

    def test_among_of_no_whole_number(self):
        for thing in (True, False, None, "3", [3], (3,), b"3", 3.0):
            self.assertIs(is_among(thing, 0, 60), False, thing)
        self.assertIs(is_among(3, None, 60), False)
        self.assertIs(is_among(3, 0, "60"), False)


class Names(unittest.TestCase):
    def test_names(self):
        for name in ("a", "z", "ann", "abcdefgh", "zzzzzzzz"):
            self.assertIs(is_name(name), True, name)

    def test_no_names(self):
        for name in ("", "abcdefghi", "Ann", "anN", "a b", " a", "a ", "a1", "1", "-", "a-b", "a\n", "\n", "`", "{",
                     "ann" * 9000):
            self.assertIs(is_name(name), False, name)

    def test_other_kinds(self):
        for thing in (None, True, 0, 7, b"ann", ["ann"], ("ann",), ["a", "b"], ("a", "b"), {"a": 1}, {"a"}, HUGE):
            self.assertIs(is_name(thing), False)


class Numbers(unittest.TestCase):
    def test_numbers(self):
        for word, number in (("0", 0), ("7", 7), ("10", 10), ("100", 100), ("12345", 12345), ("99999", 99999)):
            self.assertEqual(number_of(word), number)
            self.assertIs(is_whole(number_of(word)), True)

    def test_no_numbers(self):
        for word in ("", "00", "01", "000", "07", "123456", "100000", "-1", "+1", "1.0", "1 ", " 1", "1_0", "one",
                     "0x1", "1e3", "1\n", "9" * 20000, "0" * 5):
            self.assertIsNone(number_of(word), word)

    def test_other_kinds(self):
        for thing in (None, True, False, 0, 7, b"7", ["7"], ("7",), {}, HUGE):
            self.assertIsNone(number_of(thing))


class Rows(unittest.TestCase):
    def test_words(self):
        self.assertEqual(words_of("ann"), ["ann"])
        self.assertEqual(words_of("ann - 5"), ["ann", "-", "5"])
        self.assertEqual(words_of("a " * 9999 + "a"), ["a"] * 10000)

    def test_blanks_amiss(self):
        for row in ("", " ", "  ", " ann", "ann ", "ann  bob", "a b  c", " a b", "a b "):
            self.assertIsNone(words_of(row), row)

    def test_other_kinds(self):
        for thing in (None, True, 0, 7, b"a b", ["a", "b"], ("a", "b"), {}, HUGE):
            self.assertIsNone(words_of(thing))

    def test_each_list_is_the_askers_own(self):
        first = words_of("a b")
        first.append("c")
        self.assertEqual(words_of("a b"), ["a", "b"])


class Minutes(unittest.TestCase):
    CLOCK = ((0, "0:00"), (7, "0:07"), (59, "0:59"), (60, "1:00"), (750, "12:30"), (600, "10:00"), (5999, "99:59"))

    def test_there_and_back(self):
        for minute, word in self.CLOCK:
            self.assertEqual(clock_text(minute), word)
            self.assertEqual(minute_of(word), minute)
        for minute in range(6000):
            self.assertEqual(minute_of(clock_text(minute)), minute)

    def test_no_minutes_in_words(self):
        for word in ("", ":", "0:0", "0:7", "0:007", "00:07", "01:00", "0:60", "0:99", "99:60", "100:00", "99999:00",
                     "123456:00", "-1:00", "0:-1", "0:+7", "0: 7", "1:2:3", "0:07:", ":07", "0:", "7", "12.30", "a:00",
                     "0:aa", "0:0a", " 0:07", "0:07 ", "0:07\n", "1" * 9999 + ":00", "0:" + "0" * 9999):
            self.assertIsNone(minute_of(word), word)

    def test_no_words(self):
        for thing in (None, True, False, 0, 7, b"0:07", ["0:07"], ("0", "07"), {}, HUGE):
            self.assertIsNone(minute_of(thing))

    def test_out_of_place(self):
        for minute in (-1, 6000, True, False, HUGE, -HUGE, "7", "0:07", None, 7.0, [7], (7,)):
            with self.assertRaises(OutOfPlace):
                clock_text(minute)

    def test_of_anything(self):
        for thing in OTHER_KINDS:
            for ask in (is_whole, is_name):
                self.assertIn(ask(thing), (True, False))
            if not isinstance(thing, str):
                self.assertIsNone(number_of(thing))
                self.assertIsNone(words_of(thing))
                self.assertIsNone(minute_of(thing))


if __name__ == "__main__":
    unittest.main()
