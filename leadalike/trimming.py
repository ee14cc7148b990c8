"""Leaving out of a program what is needless."""

from leadalike.comparing import first_astray
from leadalike.programs import known_things, terms_of_rule, variables_of
from leadalike.ways import all_ways


def without_rule(program, index):
    """Return the program without the rule."""
    kinds, rules = program
    return (kinds, rules[:index] + rules[index + 1:])


def rule_without(rule, place):
    """Return the rule without the condition at the place, or None if that is no rule."""
    head, body, unlike = rule
    pair = place - len(body)
    if pair < 0:
        changed = (head, body[:place] + body[place + 1:], unlike)
    else:
        changed = (head, body, unlike[:pair] + unlike[pair + 1:])
    bound = variables_of(changed)
    return changed if all([term >= 0 or term in bound for term in terms_of_rule(changed)]) else None


def without_condition(program, index, place):
    """Return the program with the rule without this condition, or None if that is no rule."""
    kinds, rules = program
    rule = rule_without(rules[index], place)
    if rule is None:
        return None
    return (kinds, tuple(sorted(set(rules[:index] + (rule,) + rules[index + 1:]))))


def is_rule_led(program, rule, other, tries):
    """Return whether the other program leads to what the rule leads to, by the known things of the program."""
    ways = all_ways((rule,), known_things(program), tries)
    return first_astray((rule,), ways, other) is None


def is_needless(program, index, place=None, *, tries=300):
    """Return whether the rule, or its condition at the place, is needless."""
    rule = program[1][index]
    if place is None:
        return is_rule_led(program, rule, without_rule(program, index), tries)
    changed = rule_without(rule, place)
    return changed is not None and is_rule_led(program, changed, program, tries)


def conditions_of(program):
    """Return the list of the pairs (index, place) of all conditions."""
    return [
        (index, place)
        for index, rule in enumerate(program[1])
        for place in range(len(rule[1]) + len(rule[2]))
    ]


def needless_conditions(program, *, tries=300):
    """Return the set of the pairs (index, place) of all needless conditions."""
    return tuple([
        (index, place) for index, place in conditions_of(program) if is_needless(program, index, place, tries=tries)
    ])


def trimmed(program, *, tries=300):
    """Return the program without its needless conditions, and then without its needless rules."""
    place = first_needless_condition(program, tries)
    while place is not None:
        program = without_condition(program, *place)
        place = first_needless_condition(program, tries)
    index = first_needless_rule(program, tries)
    while index is not None:
        program = without_rule(program, index)
        index = first_needless_rule(program, tries)
    return program


def first_needless_condition(program, tries):
    """Return the first needless condition as (index, place), or None."""
    for index, place in conditions_of(program):
        if is_needless(program, index, place, tries=tries):
            return (index, place)
    return None


def first_needless_rule(program, tries):
    """Return the index of the first needless rule, or None."""
    for index in range(len(program[1])):
        if is_needless(program, index, tries=tries):
            return index
    return None
