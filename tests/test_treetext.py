"""Point [6]: a tree's text, written and read."""

import unittest

from ringdown.errors import BadRow, BadTree
from ringdown.treetext import read_tree, tree_text
from tests.samples import EMPTY, OTHER_KINDS, TREE, chain, flat, mixed_trees, small_trees

TEXT = "tree 2 0\nann - 3\nbob - 5\ncid ann 4\ndan ann 1\neve cid 2\nfay bob 6"
SIXTEEN = tree_text(flat(16))

# Texts that aren't a tree's, and the row and word by which they are refused.
BAD = (
    ("", 1, 0),
    (" ", 1, 0),
    ("\n", 1, 0),
    (" tree 1 0", 1, 0),
    ("tree 1 0 ", 1, 0),
    ("tree  1 0", 1, 0),
    ("tree 1  0", 1, 0),
    ("plan 1 0", 1, 1),
    ("Tree 1 0", 1, 1),
    ("trees 9 9", 1, 1),
    ("tree", 1, 2),
    ("tree 0 0", 1, 2),
    ("tree 61 0", 1, 2),
    ("tree x 9", 1, 2),
    ("tree 01 0", 1, 2),
    ("tree -1 0", 1, 2),
    ("tree 1", 1, 3),
    ("tree 1 5", 1, 3),
    ("tree 1 00", 1, 3),
    ("tree 1 -", 1, 3),
    ("tree 1 True", 1, 3),
    ("tree 1 0 0", 1, 4),
    ("tree 1 0 0 0 0", 1, 4),
    ("tree 1 0\n", 2, 0),
    ("tree 1 0\n\na - 1", 2, 0),
    ("tree 1 0\n a - 1", 2, 0),
    ("tree 1 0\na - 1 ", 2, 0),
    ("tree 1 0\na -  1", 2, 0),
    ("tree 1 0\n- - 1", 2, 1),
    ("tree 1 0\nA x 0", 2, 1),
    ("tree 1 0\nabcdefghi - 1", 2, 1),
    ("tree 1 0\na", 2, 2),
    ("tree 1 0\na a 1", 2, 2),
    ("tree 1 0\na b 1\nb - 1", 2, 2),
    ("tree 1 0\na -- 1", 2, 2),
    ("tree 1 0\na 5 x", 2, 2),
    ("tree 1 0\na -", 2, 3),
    ("tree 1 0\na - 0", 2, 3),
    ("tree 1 0\na - 61", 2, 3),
    ("tree 1 0\na - 07", 2, 3),
    ("tree 1 0\na - x y", 2, 3),
    ("tree 1 0\na - 1 1", 2, 4),
    ("tree 1 0\na - 1\na - 1", 3, 1),
    ("tree 1 0\na - 1\nb c 1", 3, 2),
    ("tree 1 0\na - 1\nb b 1", 3, 2),
    ("tree 1 0\na - 1\nb a", 3, 3),
    ("tree 1 0\na - 1\nb a 1\n", 4, 0),
    ("tree 1 0\na - 0\nb b 0", 2, 3),
    ("tree 1 0\na - 1\ntree 1 0", 3, 2),
    (SIXTEEN + "\nq - 1", 18, 0),
    (SIXTEEN + "\nqq q", 18, 0),
    (SIXTEEN + "\n", 18, 0),
    (SIXTEEN + "\naa - 1", 18, 0),
    ("x" * 20000, 1, 1),
    ("\n" * 20000, 1, 0),
    ("tree " + "1" * 19000, 1, 2),
)


class Texts(unittest.TestCase):
    def test_written(self):
        self.assertEqual(tree_text(TREE), TEXT)
        self.assertEqual(tree_text(EMPTY), "tree 1 0")
        self.assertEqual(tree_text((60, 4, (("abcdefgh", "", 60),))), "tree 60 4\nabcdefgh - 60")

    def test_read(self):
        self.assertEqual(read_tree(TEXT), TREE)
        self.assertEqual(read_tree("tree 1 0"), EMPTY)
        self.assertEqual(read_tree("tree 60 4\nabcdefgh - 60"), (60, 4, (("abcdefgh", "", 60),)))

    def test_there_and_back(self):
        for tree in [chain(16), flat(16)] + list(small_trees(3)) + list(mixed_trees(16, 40, 2)):
            self.assertEqual(read_tree(tree_text(tree)), tree)

    def test_written_of_what_is_no_tree(self):
        with self.assertRaises(BadTree) as caught:
            tree_text((1, 0, (("a", "", 1), ("a", "", 1))))
        self.assertEqual((caught.exception.part, caught.exception.number), ("people", 1))
        for thing in OTHER_KINDS:
            with self.assertRaises(BadTree):
                tree_text(thing)

    def test_read_of_what_cannot_stand(self):
        for text, row, word in BAD:
            with self.subTest(text[:60]):
                with self.assertRaises(BadRow) as caught:
                    read_tree(text)
                self.assertEqual((caught.exception.row, caught.exception.word), (row, word))

    def test_read_of_what_is_no_text(self):
        for thing in OTHER_KINDS + (b"tree 1 0", ["tree 1 0"], ("tree 1 0",), TREE):
            if not isinstance(thing, str):
                with self.assertRaises(BadRow) as caught:
                    read_tree(thing)
                self.assertEqual((caught.exception.row, caught.exception.word), (0, 0))


if __name__ == "__main__":
    unittest.main()
