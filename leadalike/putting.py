"""Putting things in for the variables of a rule."""

from leadalike.facts import LEAST_THING, MOST_THING, are_among, is_in_range, is_tuple
from leadalike.joining import Plan, joined, shelf_of
from leadalike.programs import variables_of


def bound_by(rule, values):
    """Return a dict of the things that the values put in for the rule's variables."""
    return dict(zip(variables_of(rule), values))


def fact_with(atom, bound):
    """Return the fact that the atom becomes with the bound variables."""
    kind, terms = atom
    # A thing is bound by nothing and stands for itself.
    return (kind, tuple([bound.get(term, term) for term in terms]))


def are_unlike(pairs, bound):
    """Return whether the terms of each pair are unlike; a variable that is not bound is like no other term."""
    return all([bound.get(one, one) != bound.get(other, other) for one, other in pairs])


def are_values(rule, value):
    """Return whether value is a tuple of things, one for each variable of the rule."""
    many = len(variables_of(rule))
    return is_tuple(value, many, many) and all([is_in_range(thing, LEAST_THING, MOST_THING) for thing in value])


def fit(program, index, values):
    """Return whether these are the index of a rule and values for it, whatever they are."""
    rules = program[1]
    return is_in_range(index, 0, len(rules) - 1) and are_values(rules[index], values)


def head_with(rule, values):
    """Return the rule's head with the values."""
    return fact_with(rule[0], bound_by(rule, values))


def body_with(rule, values):
    """Return the tuple of the facts of the rule's body with the values."""
    bound = bound_by(rule, values)
    return tuple([fact_with(atom, bound) for atom in rule[1]])


def is_unlike(rule, values):
    """Return whether the two terms of each pair are unlike things with the values."""
    return are_unlike(rule[2], bound_by(rule, values))


def holds(rule, values, facts):
    """Return whether the rule holds with the values on the facts."""
    return is_unlike(rule, values) and are_among(body_with(rule, values), facts)


def values_for(rule, facts):
    """Return the set of all values with which the rule holds on the facts."""
    plan = Plan(rule, 0, variables_of(rule))
    return tuple(sorted([plan.values_of(row) for row in rows_on(plan, rule, facts)]))


def led_by(rule, facts):
    """Return the set of the facts to which the rule leads from the facts."""
    plan = Plan(rule, 0, rule[0][1])
    return tuple(sorted({plan.head_of(row) for row in rows_on(plan, rule, facts)}))


def rows_on(plan, rule, facts):
    """Return the rows that the rule's plan makes of the facts."""
    return joined(plan, [shelf_of(facts)] * len(rule[1]))
