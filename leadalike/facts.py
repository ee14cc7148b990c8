"""Facts: pairs of a kind and the things that it is told of."""

from leadalike.errors import InvalidFacts

LEAST_THING = 0
MOST_THING = 29
MOST_FACTS = 5400


def is_in_range(value, least, most):
    """Return whether value is an integer from least to most; True and False are none."""
    return isinstance(value, int) and not isinstance(value, bool) and least <= value <= most


def is_tuple(value, least, most):
    """Return whether value is a tuple of least to most parts."""
    return isinstance(value, tuple) and least <= len(value) <= most


def is_of_kind(kinds, value, least, most):
    """Return whether value is a pair of a kind and as many integers as it tells."""
    if not is_tuple(value, 2, 2):
        return False
    kind, parts = value
    if not is_in_range(kind, 0, len(kinds) - 1):
        return False
    many = kinds[kind]
    return is_tuple(parts, many, many) and all([is_in_range(part, least, most) for part in parts])


def first_wrong(parts, is_right):
    """Return the index of the first part that is not right or not greater than the one before."""
    for index, part in enumerate(parts):
        # The part before is right, so Python can compare the two.
        if not is_right(part) or (index > 0 and part <= parts[index - 1]):
            return index
    return None


def is_fact(kinds, value):
    """Return whether value is a fact of one of the kinds."""
    return is_of_kind(kinds, value, LEAST_THING, MOST_THING)


def are_facts(kinds, value, most):
    """Return whether value is a set of at most so many facts of these kinds."""
    return is_tuple(value, 0, most) and first_wrong(value, lambda part: is_fact(kinds, part)) is None


def require_facts(kinds, value):
    """Return value if it is a set of facts of these kinds, else raise InvalidFacts."""
    if not is_tuple(value, 0, MOST_FACTS):
        raise InvalidFacts(None)
    index = first_wrong(value, lambda part: is_fact(kinds, part))
    if index is not None:
        raise InvalidFacts(index)
    return value


def first_missing(facts, others):
    """Return the first of the facts that is not among the others, or None."""
    known = set(others)
    for fact in facts:
        if fact not in known:
            return fact
    return None


def are_among(facts, others):
    """Return whether each of the facts is among the others."""
    return first_missing(facts, others) is None
