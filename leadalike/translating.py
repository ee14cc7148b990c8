"""Translating reasons in one program into reasons in another one that it is within."""

from leadalike.programs import known_by_either
from leadalike.putting import head_with
from leadalike.reasons import tidied
from leadalike.ways import facts_of, way_like, ways_of


def translate(one, other, paper, facts, fact, entries):
    """Return a reason in the other program for the fact, by the paper that shows that the one is within it."""
    known = known_by_either(one, other)
    shown = [reasons_by_way(rule, known, reasons) for rule, reasons in zip(one[1], paper)]
    found = []
    for index, values in tidied(one, facts, fact, entries):
        rule = one[1][index]
        way = way_like(rule, values, known)
        reason = tidied(other, facts_of(rule, way), head_with(rule, way), shown[index][way])
        found.extend(renamed(reason, dict(zip(way, values))))
    return tidied(other, facts, fact, found)


def reasons_by_way(rule, known, reasons):
    """Return a dict of the rule's ways and the reasons for them."""
    ways = list(ways_of(rule, known))
    return dict(zip(ways, reasons))


def renamed(reason, names):
    """Return the list of the reason's entries with other names for its things.

    All of its things are known ones, which keep their names, or those of the way's values.
    """
    return [(index, tuple([names.get(thing, thing) for thing in values])) for index, values in reason]
