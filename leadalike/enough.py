"""How many rounds are enough for a program, whatever the facts are."""

from leadalike.trees import leaves_of, plain_trees, root_of, tree_for

MOST_ROUNDS_ASKED = 2


def smaller_tree(program, tree, k):
    """Return a tree of at most the depth k for the tree's root from its leaves, () if it is one of them, or None."""
    return tree_for(program, leaves_of(program, tree), root_of(program, tree), k)


def is_enough(program, k, *, tries=300):
    """Return whether for all facts the round k is the model."""
    for tree in plain_trees(program, k + 1, tries=tries):
        if smaller_tree(program, tree, k) is None:
            return False
    return True


def least_enough(program, *, tries=300):
    """Return the least k from 0 to 2 such that so many rounds are enough, or None."""
    for k in range(MOST_ROUNDS_ASKED + 1):
        if is_enough(program, k, tries=tries):
            return k
    return None
