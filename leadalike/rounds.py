"""The rounds in which a program leads from facts to further facts, up to its model."""

from leadalike.spreading import ALL_ROUNDS, plans_of, spread


def round_of(program, facts, k):
    """Return the facts of the round k."""
    return tuple(sorted(spread(plans_of(program), facts, k, None).ranks))


def next_round(program, facts):
    """Return the facts of the round 1."""
    return round_of(program, facts, 1)


def is_closed(program, facts):
    """Return whether the round 1 is the same as the facts."""
    return len(next_round(program, facts)) == len(facts)


def model(program, facts):
    """Return all facts to which the program leads from the facts."""
    return round_of(program, facts, ALL_ROUNDS)


def rank_of(program, facts, fact):
    """Return the first round that has the fact, or None if it is not in the model."""
    return spread(plans_of(program), facts, ALL_ROUNDS, fact).ranks.get(fact)
