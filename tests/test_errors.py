"""The errors of DOC.md's interface: what stands under what, and their fields."""

import unittest

from ringdown import errors

UNDER = {
    "RingError": ValueError,
    "BadRow": errors.RingError,
    "BadTree": errors.RingError,
    "BadAway": errors.RingError,
    "BadCall": errors.RingError,
    "BadPrices": errors.RingError,
    "BadMessage": errors.RingError,
    "BadHeard": errors.RingError,
    "BadPaper": errors.RingError,
    "Twice": errors.RingError,
    "OutOfPlace": errors.RingError,
    "TooGreat": errors.RingError,
    "MissError": LookupError,
    "NoName": errors.MissError,
    "NoHappening": errors.MissError,
    "NoMark": errors.MissError,
    "PhoneError": RuntimeError,
    "Busy": errors.PhoneError,
    "TooLate": errors.PhoneError,
}

# Each class, its fields, and how many of them must be handed in.
FIELDS = (
    ("BadRow", ("row", "word"), 2),
    ("BadTree", ("part", "number"), 1),
    ("BadAway", ("number",), 0),
    ("BadCall", ("number",), 0),
    ("BadPrices", ("number",), 0),
    ("BadMessage", ("number",), 0),
    ("BadHeard", ("number",), 0),
    ("BadPaper", ("place",), 0),
    ("NoName", ("name",), 1),
    ("NoHappening", ("word",), 1),
    ("NoMark", ("word",), 1),
    ("Busy", ("name", "until"), 2),
    ("TooLate", ("minute",), 1),
)


class Errors(unittest.TestCase):
    def test_each_stands_straight_under_one(self):
        for name, base in UNDER.items():
            with self.subTest(name):
                self.assertEqual(getattr(errors, name).__bases__, (base,))

    def test_there_are_no_others(self):
        made = [name for name, thing in vars(errors).items() if isinstance(thing, type)]
        self.assertEqual(sorted(made), sorted(UNDER))

    def test_fields_by_place(self):
        for name, fields, _ in FIELDS:
            with self.subTest(name):
                handed = [object() for _ in fields]
                error = getattr(errors, name)(*handed)
                for field, thing in zip(fields, handed):
                    self.assertIs(getattr(error, field), thing)

    def test_fields_by_name(self):
        for name, fields, _ in FIELDS:
            with self.subTest(name):
                handed = {field: object() for field in fields}
                error = getattr(errors, name)(**handed)
                for field, thing in handed.items():
                    self.assertIs(getattr(error, field), thing)

    def test_fields_left_out_are_none(self):
        for name, fields, needed in FIELDS:
            with self.subTest(name):
                error = getattr(errors, name)(*range(needed))
                self.assertEqual([getattr(error, field) for field in fields[needed:]], [None] * (len(fields) - needed))

    def test_fields_that_are_needed(self):
        for name, _, needed in FIELDS:
            if needed:
                with self.subTest(name), self.assertRaises(TypeError):
                    getattr(errors, name)(*range(needed - 1))

    def test_one_more_than_the_fields(self):
        for name, fields, _ in FIELDS:
            with self.subTest(name), self.assertRaises(TypeError):
                getattr(errors, name)(*range(len(fields) + 1))

    def test_made_of_a_text(self):
        for made in (errors.Twice, errors.OutOfPlace, errors.TooGreat):
            with self.subTest(made):
                self.assertEqual(str(made("a text")), "a text")

    def test_fields_may_be_of_any_size(self):
        huge = 10 ** 5000
        self.assertEqual(errors.NoName(huge).name, huge)
        self.assertEqual(errors.Busy([huge], until=huge).until, huge)

    def test_caught_by_what_they_stand_under(self):
        with self.assertRaises(ValueError):
            raise errors.BadAway(2)
        with self.assertRaises(LookupError):
            raise errors.NoName("ann")
        with self.assertRaises(RuntimeError):
            raise errors.TooLate(6000)
        self.assertFalse(issubclass(errors.NoName, errors.RingError))
        self.assertFalse(issubclass(errors.Busy, errors.RingError))


if __name__ == "__main__":
    unittest.main()
