"""Point [62]: SHAPEs, by which names aren't looked at."""

import unittest

from ringdown.errors import BadTree, NoName
from ringdown.shapes import same_shape, shape_numbers
from ringdown.tree import names_of
from ringdown.worst import worst
from tests.minutes import listed
from tests.samples import EMPTY, HUGE, NAMES, OTHER_KINDS, TREE, AlikeToAll, Thing, chain, flat, mixed_trees, small_trees
from tests.samples import twofold

# a and d are of one shape, b and e, c and f; they don't stand in WALK order.
TWICE = (2, 0, (("a", "", 3), ("d", "", 3), ("b", "a", 1), ("c", "a", 2), ("e", "d", 1), ("f", "d", 2)))


def shape_by_hand(tree, name):
    talk = [row[2] for row in tree[2] if row[0] == name][0]
    return [talk, [shape_by_hand(tree, each) for each in listed(tree[2], name)]]


def numbers_by_hand(tree):
    seen, numbers = [], []
    for name, _, _ in tree[2]:
        shape = shape_by_hand(tree, name)
        if shape not in seen:
            seen.append(shape)
        numbers.append(seen.index(shape))
    return tuple(numbers)


def below_by_hand(tree, name):
    found = [name]
    for each in listed(tree[2], name):
        found += below_by_hand(tree, each)
    return found


def changed_places(tree, one, other):
    """Two who stand not below one another change their places, with all below them."""
    names = {name: [each for each in listed(tree[2], name)] for name in [""] + list(names_of(tree))}
    over = {name: [each for each in names if name in names[each]][0] for name in (one, other)}
    at = {name: names[over[name]].index(name) for name in (one, other)}
    names[over[one]][at[one]] = other
    names[over[other]][at[other]] = one
    talks = {row[0]: row[2] for row in tree[2]}
    people, left = [], [""]
    while left:
        each = left.pop(0)
        people += [(name, each, talks[name]) for name in names[each]]
        left += names[each]
    return (tree[0], tree[1], tuple(people))


class Shapes(unittest.TestCase):
    def test_by_hand(self):
        self.assertEqual(shape_numbers(EMPTY), ())
        self.assertEqual(shape_numbers(TWICE), (0, 0, 1, 2, 1, 2))
        self.assertEqual(shape_numbers(tree=TREE), (0, 1, 2, 3, 4, 5))
        self.assertEqual(shape_numbers(flat(3)), (0, 0, 0))
        self.assertEqual(shape_numbers(chain(3)), (0, 1, 2))
        self.assertEqual([same_shape(TWICE, "a", name) for name in "abcdef"], [True, False, False, True, False, False])
        self.assertIs(same_shape(tree=TWICE, one="b", other="e"), True)

    def test_the_order_of_a_list_counts(self):
        people = (("a", "", 3), ("d", "", 3), ("b", "a", 1), ("c", "a", 2), ("f", "d", 2), ("e", "d", 1))
        tree = (2, 0, people)
        self.assertIs(same_shape(tree, "a", "d"), False)
        self.assertEqual(shape_numbers(tree), (0, 1, 2, 3, 3, 2))

    def test_what_stands_how_deep_counts(self):
        # One of a list of two; or both, one below the other one.
        people = (("a", "", 1), ("b", "a", 1), ("c", "a", 1), ("d", "", 1), ("e", "d", 1), ("f", "e", 1))
        self.assertEqual(shape_numbers((1, 0, people)), (0, 1, 1, 2, 3, 1))
        self.assertIs(same_shape((1, 0, people), "a", "d"), False)
        # 1 with 11 below it, and 11 with 1 below it; 1, 2 and 12.
        people = (("a", "", 1), ("b", "a", 11), ("c", "", 11), ("d", "c", 1), ("e", "", 1), ("f", "e", 1), ("g", "e", 1))
        self.assertEqual(shape_numbers((1, 0, people)), (0, 1, 2, 3, 4, 3, 3))
        people = (("a", "", 5), ("b", "a", 1), ("c", "a", 2), ("d", "", 5), ("e", "d", 12))
        self.assertEqual(shape_numbers((1, 0, people)), (0, 1, 2, 3, 4))

    def test_by_lists(self):
        for tree in tuple(small_trees(4))[::3] + tuple(mixed_trees(8, 60, 311)) + (twofold(16), flat(16), chain(16)):
            numbers = numbers_by_hand(tree)
            self.assertEqual(shape_numbers(tree), numbers)
            for at, one in enumerate(names_of(tree)):
                for place, other in enumerate(names_of(tree)):
                    self.assertIs(same_shape(tree, one, other), numbers[at] == numbers[place])

    def test_neither_wait_nor_deep_nor_names_count(self):
        for tree in mixed_trees(7, 20, 312):
            renamed = {"": "", **{row[0]: "n" + row[0] for row in tree[2]}}
            people = tuple((renamed[name], renamed[caller], talk) for name, caller, talk in tree[2])
            self.assertEqual(shape_numbers((9, (tree[1] + 1) % 5, people)), shape_numbers(tree))

    def test_kinds(self):
        self.assertIs(type(shape_numbers(TWICE)), tuple)
        self.assertEqual([type(number) for number in shape_numbers(TWICE)], [int] * 6)

    def test_sixteen(self):
        self.assertEqual(shape_numbers(flat(16)), (0,) * 16)
        self.assertEqual(shape_numbers(chain(16)), tuple(range(16)))
        self.assertIs(same_shape(chain(16), NAMES[0], NAMES[15]), False)


class Places(unittest.TestCase):
    def test_no_worst_is_another_one(self):
        count = 0
        for tree in (TWICE, (2, 1, TWICE[2]), (3, 2, TWICE[2])) + tuple(mixed_alike(6, 60)):
            for one in names_of(tree):
                for other in names_of(tree):
                    if one < other and same_shape(tree, one, other):
                        if other not in below_by_hand(tree, one) and one not in below_by_hand(tree, other):
                            count += 1
                            self.hold(tree, changed_places(tree, one, other))
        self.assertGreater(count, 50)

    def hold(self, tree, other):
        for which in ("last", "quiet", "lost"):
            for many in range(4):
                self.assertEqual(worst(tree, many, which), worst(other, many, which), (tree, other))


def mixed_alike(many, count):
    for tree in mixed_trees(many, count, 313):
        yield (tree[0], tree[1], tuple((name, caller, talk % 2 + 1) for name, caller, talk in tree[2]))


class Refused(unittest.TestCase):
    def test_no_trees(self):
        for ask in (shape_numbers, lambda tree: same_shape(tree, "zoe", "zed")):
            for thing in OTHER_KINDS + (AlikeToAll(), (1, 0, (("a", "", 1), ("a", "", 1)))):
                with self.assertRaises(BadTree):
                    ask(thing)

    def test_no_names(self):
        for name in ("zoe", "", "-", None, True, 0, HUGE, ["ann"], ("ann",), b"ann", Thing(), AlikeToAll()):
            with self.assertRaises(NoName) as caught:
                same_shape(TREE, name, "zed")
            self.assertIs(caught.exception.name, name)
            with self.assertRaises(NoName) as caught:
                same_shape(TREE, "ann", name)
            self.assertIs(caught.exception.name, name)


if __name__ == "__main__":
    unittest.main()
