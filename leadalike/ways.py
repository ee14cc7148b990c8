"""The ways in which the values of a rule's variables can be alike."""

from leadalike.errors import LimitExceeded
from leadalike.facts import LEAST_THING, MOST_THING
from leadalike.programs import variables_of
from leadalike.putting import are_unlike, body_with, is_unlike


def new_things(known):
    """Return the ascending tuple of the things that are not known."""
    return tuple([thing for thing in range(LEAST_THING, MOST_THING + 1) if thing not in known])


def fillings(rule, known, used, bound):
    """Yield, ascending, each pair (values, count) that binds the free variables in ways of being alike.

    The new things come into use one after the other, so a number tells which are in use:
    used is the number before these values, count the one with them.
    """
    if not are_unlike(rule[2], bound):
        return
    variables = variables_of(rule)
    free = [variable for variable in variables if variable not in bound]
    if not free:
        yield (tuple([bound[variable] for variable in variables]), used)
        return
    fresh = new_things(known)
    least = fresh[used:used + 1]
    for thing in sorted(known + fresh[:used] + least):
        count = used + 1 if thing in least else used
        longer = {**bound, free[0]: thing}
        yield from fillings(rule, known, count, longer)


def ways_of(rule, known):
    """Yield all ways of the rule by the known things, ascending."""
    bound = {}
    for (values, _) in fillings(rule, known, 0, bound):
        yield values


def all_ways(rules, known, tries):
    """Return pairs (index, way) of all ways of the rules, in their order; raise LimitExceeded above tries of them."""
    found = []
    for index, rule in enumerate(rules):
        for values in ways_of(rule, known):
            if len(found) == tries:
                raise LimitExceeded(tries)
            found.append((index, values))
    return found


def facts_of(rule, values):
    """Return the set of the facts of the rule's body with the values."""
    return tuple(sorted(set(body_with(rule, values))))


def way_like(rule, values, known):
    """Return the way of the rule that is like the values."""
    fresh = new_things(known)
    named = {}
    for thing in values:
        if thing not in known and thing not in named:
            named[thing] = fresh[len(named)]
    return tuple([named.get(thing, thing) for thing in values])


def is_way(rule, values, known):
    """Return whether the values for the rule are a way of it."""
    return is_unlike(rule, values) and way_like(rule, values, known) == values
