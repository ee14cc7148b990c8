"""Comparing what two programs of the same kinds lead to, for all facts."""

from leadalike.programs import known_by_either
from leadalike.putting import head_with
from leadalike.spreading import leads, plans_of
from leadalike.ways import all_ways, facts_of


def first_astray(rules, ways, other):
    """Return the first (index, way) from whose facts the other program does not lead to the head, or None."""
    plans = plans_of(other)
    for index, values in ways:
        rule = rules[index]
        if not leads(plans, facts_of(rule, values), head_with(rule, values)):
            return (index, values)
    return None


def parting(one, other, *, tries=300):
    """Return the first rule and way of the one in which the other program does not lead to the head, or None."""
    ways = all_ways(one[1], known_by_either(one, other), tries)
    return first_astray(one[1], ways, other)


def is_within(one, other, *, tries=300):
    """Return whether for all facts each fact to which the one leads is one to which the other program leads."""
    return parting(one, other, tries=tries) is None


def are_alike(one, other, *, tries=300):
    """Return whether each program is within the other one."""
    return is_within(one, other, tries=tries) and is_within(other, one, tries=tries)
