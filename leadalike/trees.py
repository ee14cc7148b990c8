"""Trees: how a fact is the root of the facts that lead to it."""

from leadalike.errors import LimitExceeded
from leadalike.facts import is_tuple
from leadalike.programs import known_things
from leadalike.putting import body_with, fit, head_with, is_unlike
from leadalike.spreading import plans_of, spread
from leadalike.ways import fillings


def root_of(program, tree):
    """Return the fact that the tree leads to."""
    index, values, _ = tree
    return head_with(program[1][index], values)


def leaves_of(program, tree):
    """Return the set of the facts that the tree leads from."""
    leaves = {}
    waiting = [tree]
    while waiting:
        index, values, parts = waiting.pop()
        for part, fact in zip(parts, body_with(program[1][index], values)):
            if part == ():
                leaves[fact] = True
            else:
                waiting.append(part)
    return tuple(sorted(leaves))


def depth_of(tree):
    """Return how many rules stand above one another in the tree."""
    depth = 0
    level = [tree]
    while level:
        depth = depth + 1
        level = [part for each in level for part in each[2] if part != ()]
    return depth


def is_tree(program, value):
    """Return whether value, whatever it is, is a tree."""
    return has_tree_form(program, value) and is_sound(program, value)


def has_tree_form(program, value):
    """Return whether value has rules, values for them and parts as a tree has, be it one or not."""
    # A list of what is to be looked at instead of recursion, as a value may be nested deeply.
    waiting = [value]
    while waiting:
        tree = waiting.pop()
        if not is_branching(program, tree):
            return False
        waiting.extend([part for part in tree[2] if not is_tuple(part, 0, 0)])
    return True


def is_branching(program, value):
    """Return whether value is the index of a rule, values for it, and a part for each atom."""
    if not is_tuple(value, 3, 3):
        return False
    index, values, parts = value
    if not fit(program, index, values):
        return False
    many = len(program[1][index][1])
    return is_tuple(parts, many, many)


def is_sound(program, tree):
    """Return whether in what has the form of a tree all pairs are unlike and each part's root is its atom's fact."""
    waiting = [tree]
    while waiting:
        index, values, parts = waiting.pop()
        rule = program[1][index]
        if not is_unlike(rule, values):
            return False
        grown = [(part, fact) for part, fact in zip(parts, body_with(rule, values)) if part != ()]
        if not all([root_of(program, part) == fact for part, fact in grown]):
            return False
        waiting.extend([part for part, _ in grown])
    return True


def bound_to(atom, fact):
    """Return a dict of the variables with which the atom is the fact, or None if it is not."""
    if atom[0] != fact[0]:
        return None
    bound = {}
    for term, thing in zip(atom[1], fact[1]):
        if term < 0:
            bound.setdefault(term, thing)
        if bound.get(term, term) != thing:
            return None
    return bound


def plain_trees(program, depth, *, tries=300):
    """Return the ascending tuple of all plain trees of at most this depth; raise LimitExceeded above tries of them."""
    known = known_things(program)
    found = []
    for (tree, _) in trees_to(program, known, 0, None, depth):
        if len(found) == tries:
            raise LimitExceeded(tries)
        found.append(tree)
    return tuple(found)


def trees_to(program, known, used, fact, depth):
    """Yield, ascending, each plain tree (tree, count) of at most this depth for the fact, or for any if it is None.

    As in fillings, used is the number of new things in use before the tree, count the one with it.
    """
    below = depth - 1
    for index, rule in enumerate(program[1]):
        bound = {} if fact is None else bound_to(rule[0], fact)
        if bound is not None:
            for (values, more) in fillings(rule, known, used, bound):
                body = body_with(rule, values)
                for (parts, count) in parts_for(program, known, more, body, below):
                    yield ((index, values, parts), count)


def parts_for(program, known, used, facts, depth):
    """Yield, ascending, each tuple of parts (parts, count) of at most this depth for the facts."""
    if not facts:
        yield ((), used)
        return
    first = facts[0]
    others = facts[1:]
    for (part, more) in part_for(program, known, used, first, depth):
        for (parts, count) in parts_for(program, known, more, others, depth):
            yield ((part, *parts), count)


def part_for(program, known, used, fact, depth):
    """Yield, ascending, each part (part, count) of at most this depth for the fact, first of all ()."""
    yield ((), used)
    if depth > 0:
        yield from trees_to(program, known, used, fact, depth)


def tree_for(program, facts, fact, depth):
    """Return a tree of at most this depth for the fact from the facts, () if it is given, or None."""
    state = spread(plans_of(program), facts, depth, fact)
    return tree_by(program, state.entries, fact) if fact in state.ranks else None


def tree_by(program, entries, fact):
    """Return the tree that the entries make for the fact."""
    if fact not in entries:
        return ()
    index, values = entries[fact]
    parts = tuple([tree_by(program, entries, part) for part in body_with(program[1][index], values)])
    return (index, values, parts)
