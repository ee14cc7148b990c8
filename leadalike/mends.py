"""Wishes that a program may keep, and the cheapest changes by which it keeps them."""

from leadalike.comparing import is_within
from leadalike.errors import InvalidOptions, InvalidWishes
from leadalike.facts import are_facts, is_fact, is_in_range, is_tuple
from leadalike.programs import MOST_RULES, is_program, is_rule
from leadalike.spreading import leads, plans_of

MOST_WISHES = 3
MOST_WISHED_FACTS = 60
MOST_OPTIONS = 3
MOST_COST = 99


def is_wish(kinds, value):
    """Return whether value is a wish for these kinds."""
    if not is_tuple(value, 2, 3):
        return False
    if len(value) == 2:
        word, program = value
        return word in ("within", "over") and is_program(program) and program[0] == kinds
    word, facts, fact = value
    return word in ("leads", "spares") and are_facts(kinds, facts, MOST_WISHED_FACTS) and is_fact(kinds, fact)


def are_wishes(kinds, value):
    """Return whether value is a tuple of wishes for these kinds."""
    return is_tuple(value, 1, MOST_WISHES) and all([is_wish(kinds, part) for part in value])


def require_wishes(kinds, value):
    """Return value if it is a tuple of wishes for these kinds, else raise InvalidWishes."""
    if not is_tuple(value, 1, MOST_WISHES):
        raise InvalidWishes(None)
    for index, part in enumerate(value):
        if not is_wish(kinds, part):
            raise InvalidWishes(index)
    return value


def keeps(program, wish, *, tries=300):
    """Return whether the program keeps the wish."""
    if wish[0] == "within":
        return is_within(program, wish[1], tries=tries)
    if wish[0] == "over":
        return is_within(wish[1], program, tries=tries)
    word, facts, fact = wish
    return leads(plans_of(program), facts, fact) == (word == "leads")


def is_option(program, value):
    """Return whether value is an option for the program."""
    if not is_tuple(value, 3, 3):
        return False
    word, rule, cost = value
    if word not in ("put", "drop") or not is_rule(program[0], rule):
        return False
    return (rule in program[1]) == (word == "drop") and is_in_range(cost, 0, MOST_COST)


def are_options(program, value):
    """Return whether value is a tuple of options for the program."""
    return is_tuple(value, 1, MOST_OPTIONS) and all([is_option(program, part) for part in value])


def require_options(program, value):
    """Return value if it is a tuple of options for the program, else raise InvalidOptions."""
    if not is_tuple(value, 1, MOST_OPTIONS):
        raise InvalidOptions(None)
    for index, part in enumerate(value):
        if not is_option(program, part):
            raise InvalidOptions(index)
    return value


def cost_of(options, choice):
    """Return the sum of the costs of the chosen options."""
    return sum([options[index][2] for index in choice])


def subsets(many):
    """Return the list of all ascending tuples of the indices below many."""
    found = [()]
    for index in range(many):
        found = found + [(*chosen, index) for chosen in found]
    return found


def is_possible(program, options, choice):
    """Return whether no two options of the choice are for the same rule and there is room for the rules."""
    rules = [options[index][1] for index in choice]
    is_told_once = len(set(rules)) == len(rules)
    return is_told_once and len(with_choice(program, options, choice)[1]) <= MOST_RULES


def choices(program, options):
    """Yield all choices, those of less cost first, then as tuples."""
    ordered = sorted([(cost_of(options, choice), choice) for choice in subsets(len(options))])
    for (_, choice) in ordered:
        if is_possible(program, options, choice):
            yield choice


def with_choice(program, options, choice):
    """Return the program with the chosen options' rules put and dropped."""
    kinds, rules = program
    put = [options[index][1] for index in choice if options[index][0] == "put"]
    dropped = [options[index][1] for index in choice if options[index][0] == "drop"]
    return (kinds, tuple(sorted([rule for rule in rules if rule not in dropped] + put)))


def is_mended(program, wishes, tries):
    """Return whether the program keeps all wishes; it looks at them up to the first that is not kept."""
    for wish in wishes:
        if not keeps(program, wish, tries=tries):
            return False
    return True


def cheapest_mend(program, wishes, options, *, tries=300):
    """Return the first choice with which the changed program keeps all wishes, or None."""
    for choice in choices(program, options):
        if is_mended(with_choice(program, options, choice), wishes, tries):
            return choice
    return None
