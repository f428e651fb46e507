"""The interface of DOC.md, as far as it has landed: names, arguments, and the files that define them."""

import importlib
import inspect
import unittest

# "name" is needed, "name=worth" may be left out.
FUNCTIONS = {
    "words": {
        "is_whole": "thing", "is_among": "thing, least, most", "is_name": "thing", "number_of": "word",
        "words_of": "row", "minute_of": "word", "clock_text": "minute",
    },
    "tree": {
        "is_tree": "thing", "need_tree": "tree", "is_away": "tree, thing", "need_away": "tree, away",
        "names_of": "tree", "list_of": "tree, name=''", "below": "tree, name=''", "level_of": "tree, name=''",
        "caller_of": "tree, name", "talk_of": "tree, name", "in_walk": "tree", "same_tree": "one, other",
    },
    "treetext": {"tree_text": "tree", "read_tree": "text"},
    "rings": {
        "ring_calls": "tree, away=None", "told_rows": "tree, away=None", "lost_names": "tree, away=None",
        "last_of": "tree, away=None", "quiet_of": "tree, away=None", "told_minute": "tree, name, away=None",
        "carrier_of": "tree, name, away=None",
    },
    "ways": {"way_of": "tree, name, away=None", "slack_of": "tree, name, away=None"},
    "standings": {
        "standing": "tree, minute, name, away=None", "standings": "tree, minute, away=None",
        "going_at": "tree, minute, away=None",
    },
    "ringcheck": {"check_calls": "tree, calls, away=None"},
    "worst": {
        "measure_of": "tree, away=None, which='last', name=''",
        "worst": "tree, many, which='last', name='', sure=None",
        "worsts": "tree, which='last', name='', sure=None",
    },
    "worsttables": {
        "worst_table": "tree, many, which='last', name='', sure=None",
        "worst_paper": "tree, many, which='last', name='', sure=None",
    },
    "worstcheck": {
        "check_worst": "tree, many, paper, which='last', name='', sure=None",
        "check_fewest": "tree, least, paper, which='last', name='', sure=None",
    },
    "fewest": {
        "fewest": "tree, least, which='last', name='', sure=None",
        "fewest_paper": "tree, least, which='last', name='', sure=None",
        "best_sure": "tree, many, which='last', name=''",
    },
    "orders": {
        "tails": "tree, away=None, which='last'", "in_order": "tree, away=None, which='last'",
        "soonest": "tree, away=None, which='last'", "count_orders": "tree, away=None",
    },
    "ordercheck": {
        "order_paper": "tree, away=None, which='last'", "check_order": "tree, paper, away=None, which='last'",
    },
    "counts": {
        "reached": "rounds, many", "fewest_rounds": "hands, many",
        "soonest_tree": "names, many, talk, wait=1, deep=0",
    },
    "places": {"places": "tree, talk, many=0", "best_places": "tree, talk, many=0"},
    "messages": {
        "is_message": "thing", "need_message": "thing", "need_prices": "thing",
        "change_cost": "prices, one, other", "steps_of": "prices, one, other", "made_by": "prices, one, steps",
    },
    "changepaper": {"change_paper": "prices, one, other", "check_change": "prices, one, other, paper"},
    "stories": {
        "need_case": "case", "states_of": "case", "row_of": "case, name=''", "story_cost": "case, story",
        "story_price": "case", "count_stories": "case", "least_story": "case",
    },
    "storypaper": {"story_paper": "case", "check_story": "case, paper"},
    "blame": {
        "may_have_heard": "case, name", "sure_faults": "case", "spared_price": "case, name=''",
        "must_have": "case, name=''", "fewest_to_blame": "case", "must_paper": "case, name=''",
        "check_must": "case, name, paper",
    },
    "changes": {
        "joined": "tree, name, caller, talk, place=None", "left": "tree, name", "moved": "tree, name, caller, place=None",
        "retalked": "tree, name, talk", "rewaited": "tree, wait", "redeeped": "tree, deep",
    },
    "shapes": {"shape_numbers": "tree", "same_shape": "tree, one, other"},
    "plantext": {"plan_text": "tree, away=None", "read_plan_text": "text"},
    "ringbook": {"book_text": "ringing"},
    "bookread": {"read_book": "text"},
}

# Each class by its file, and its methods with their arguments behind the object itself.
CLASSES = {
    ("ringing", "Ringing"): {
        "__init__": "tree=None, away=None", "ring": "happening", "join": "name, caller, talk, place=None", "leave": "name",
        "move": "name, caller, place=None", "set_talk": "name, talk", "set_wait": "wait", "go_away": "name",
        "come_back": "name", "go": "minutes=1", "till_quiet": "", "now": "", "tree": "", "away": "", "is_quiet": "",
        "happenings": "", "standing": "happening, name", "told": "happening", "missed": "happening", "line": "name=''",
        "going": "", "calls": "", "chain": "happening, name", "forecast": "happening", "deeds": "", "first": "",
        "copied": "", "__eq__": "other", "__len__": "", "__str__": "", "__repr__": "",
    },
    ("plan", "Plan"): {
        "__init__": "tree=None, away=None", "join": "name, caller, talk, place=None", "leave": "name",
        "move": "name, caller, place=None", "set_talk": "name, talk", "set_wait": "wait", "set_deep": "deep",
        "go_away": "name", "come_back": "name", "put_in_order": "which='last'", "put_back": "word", "keep": "word",
        "drop": "word", "kept": "", "tree": "", "away": "", "calls": "", "told": "name", "last": "", "quiet": "", "lost": "",
        "worst": "many, which='last', name='', sure=None", "soonest": "which='last'", "best_places": "talk, many=0",
        "changed": "", "looked": "", "copied": "", "__eq__": "other", "__len__": "", "__str__": "", "__repr__": "",
    },
    ("desk", "Desk"): {
        "__init__": "text=None", "say": "line", "plan": "", "live": "", "lines": "", "__len__": "",
    },
}

ERRORS = {
    "BadRow": "row, word", "BadTree": "part, number=None", "BadAway": "number=None", "BadCall": "number=None",
    "BadPrices": "number=None", "BadMessage": "number=None", "BadHeard": "number=None", "BadPaper": "place=None",
    "NoName": "name", "NoHappening": "word", "NoMark": "word", "Busy": "name, until", "TooLate": "minute",
}


def arguments(thing):
    return str(inspect.signature(thing))[1:-1]


class Interface(unittest.TestCase):
    def test_functions(self):
        for file, functions in FUNCTIONS.items():
            module = importlib.import_module("ringdown." + file)
            for name, told in functions.items():
                with self.subTest(file=file, name=name):
                    made = getattr(module, name)
                    self.assertTrue(inspect.isfunction(made))
                    self.assertEqual(made.__module__, "ringdown." + file)
                    self.assertEqual(arguments(made), told)

    def test_classes(self):
        for (file, kind), methods in CLASSES.items():
            made = getattr(importlib.import_module("ringdown." + file), kind)
            self.assertEqual(made.__module__, "ringdown." + file)
            for name, told in methods.items():
                with self.subTest(kind=kind, name=name):
                    # In the class itself, not in one that it stands under.
                    self.assertTrue(inspect.isfunction(vars(made)[name]))
                    self.assertEqual(arguments(vars(made)[name]), "self" + (", " if told else "") + told)
            others = [name for name in vars(made) if not name.startswith("_") and name not in methods]
            self.assertEqual(others, [], kind)

    def test_errors(self):
        module = importlib.import_module("ringdown.errors")
        for name, told in ERRORS.items():
            with self.subTest(name=name):
                made = getattr(module, name)
                self.assertEqual(made.__module__, "ringdown.errors")
                self.assertEqual(arguments(made), told)


if __name__ == "__main__":
    unittest.main()
