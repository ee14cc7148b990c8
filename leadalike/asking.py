"""What claims ask for: in which program there have to be reasons, for which ways, for which wishes and choices."""

from leadalike.mends import choices, cost_of
from leadalike.programs import known_by_either, known_things
from leadalike.trimming import rule_without, without_rule


def asked_by(claim):
    """Return (rules, known, target) for a claim "within" or "needless".

    It is so if the target, a program, leads from the facts of each way of the rules to their heads.
    """
    if claim[0] == "within":
        _, one, other = claim
        return (one[1], known_by_either(one, other), other)
    _, program, index, place = claim
    rule = program[1][index]
    known = known_things(program)
    if place is None:
        return ((rule,), known, without_rule(program, index))
    return ((rule_without(rule, place),), known, program)


def claim_for(program, wish):
    """Return the claim that tells whether the program keeps the wish."""
    if wish[0] == "within":
        return ("within", program, wish[1])
    if wish[0] == "over":
        return ("within", wish[1], program)
    _, facts, fact = wish
    return ("leads", program, facts, fact)


def verdict_for(wish, is_kept):
    """Return the verdict of that claim if the wish is kept, or is not."""
    return "shown" if is_kept == (wish[0] != "spares") else "broken"


def choices_up_to(program, options, most):
    """Return the list of all choices that cost at most so much, or of all if most is None, in their order."""
    return [choice for choice in choices(program, options) if most is None or cost_of(options, choice) <= most]
