"""SHAPEs: whose TALKs and LISTs are the same, whatever their names are."""

from ringdown.tree import need_name, need_tree
from ringdown.treeparts import TreeParts


def shape_text(parts, name):
    """The SHAPE of a NAME, as a text."""
    listed = " ".join([shape_text(parts, each) for each in parts.lists[name]])
    return f"{parts.talks[name]}({listed})"


def shapes_of(tree):
    """The SHAPEs of PEOPLE, as they stand, as texts."""
    parts = TreeParts(tree)
    return [shape_text(parts, name) for name in parts.names]


def shape_numbers(tree):
    """For each of PEOPLE the number of its SHAPE, from 0 on as SHAPEs come for the first time."""
    need_tree(tree)
    shapes = shapes_of(tree)
    numbers = {}
    for shape in shapes:
        if shape not in numbers:
            numbers[shape] = len(numbers)
    return tuple([numbers[shape] for shape in shapes])


def same_shape(tree, one, other):
    """Whether two NAMEs are of one SHAPE."""
    need_name(tree, one)
    need_name(tree, other)
    parts = TreeParts(tree)
    return shape_text(parts, one) == shape_text(parts, other)
