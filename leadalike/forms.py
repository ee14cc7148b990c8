"""Whether a paper, whatever it is, has the form that its claim and verdict ask for."""

from leadalike.asking import asked_by, choices_up_to, claim_for, verdict_for
from leadalike.errors import LimitExceeded
from leadalike.facts import MOST_FACTS, are_facts, is_in_range, is_tuple
from leadalike.mends import with_choice
from leadalike.putting import are_values
from leadalike.reasons import has_reason_form
from leadalike.trees import has_tree_form, plain_trees
from leadalike.ways import all_ways

MOST_LOOKED_AT = 1000


def has_form(claim, verdict, paper):
    """Return whether the paper has the form for the claim and the verdict "shown" or "broken"."""
    if claim[0] == "leads":
        return has_leads_form(claim, verdict, paper)
    if claim[0] == "rounds":
        return has_rounds_form(claim, verdict, paper)
    if claim[0] == "mend":
        return has_mend_form(claim, verdict, paper)
    asked = asked_by(claim)
    # A paper for "needless" is like that part of one for "within" that is of one rule.
    if verdict == "shown":
        papers = paper if claim[0] == "within" else (paper,)
        return have_shown_form(asked, papers)
    if claim[0] == "within":
        return has_broken_form(asked, paper)
    return is_tuple(paper, 2, 2) and has_broken_form(asked, (0, *paper))


def has_leads_form(claim, verdict, paper):
    """Return whether the paper has the form for a claim "leads"."""
    program = claim[1]
    if verdict == "shown":
        return has_reason_form(program, paper)
    return are_facts(program[0], paper, MOST_FACTS)


def have_shown_form(asked, papers):
    """Return whether the papers are a tuple for each rule that is asked for, of a reason for each of its ways."""
    rules, known, target = asked
    if not is_tuple(papers, len(rules), len(rules)):
        return False
    try:
        ways = all_ways(rules, known, MOST_LOOKED_AT)
    except LimitExceeded:
        return False
    for at, reasons in enumerate(papers):
        many = len([values for index, values in ways if index == at])
        if not is_tuple(reasons, many, many) or not all([has_reason_form(target, reason) for reason in reasons]):
            return False
    return True


def has_broken_form(asked, paper):
    """Return whether the paper is the index of a rule that is asked for, values for it, and facts."""
    rules, _, target = asked
    if not is_tuple(paper, 3, 3):
        return False
    index, values, facts = paper
    if not is_in_range(index, 0, len(rules) - 1) or not are_values(rules[index], values):
        return False
    return are_facts(target[0], facts, MOST_FACTS)


def has_rounds_form(claim, verdict, paper):
    """Return whether the paper has the form for a claim "rounds"."""
    _, program, k = claim
    if verdict == "shown":
        return have_trees_form(program, k, paper)
    if not is_tuple(paper, 2, 2):
        return False
    tree, sets = paper
    if not has_tree_form(program, tree) or not is_tuple(sets, k, k):
        return False
    return all([are_facts(program[0], facts, MOST_FACTS) for facts in sets])


def have_trees_form(program, k, paper):
    """Return whether the paper is a tuple of () or a tree for each plain tree that is asked for."""
    try:
        many = len(plain_trees(program, k + 1, tries=MOST_LOOKED_AT))
    except LimitExceeded:
        return False
    if not is_tuple(paper, many, many):
        return False
    return all([is_tuple(part, 0, 0) or has_tree_form(program, part) for part in paper])


def has_mend_form(claim, verdict, paper):
    """Return whether the paper has the form for a claim "mend"."""
    _, program, wishes, options, n = claim
    parts = mend_parts(verdict, n, paper)
    if parts is None:
        return False
    chosen, grounds, breaks, most = parts
    for choice in chosen:
        if not is_choice(program, options, choice):
            return False
        if not have_grounds_form(with_choice(program, options, choice), wishes, grounds):
            return False
    return have_breaks_form(claim, breaks, choices_up_to(program, options, most))


def mend_parts(verdict, n, paper):
    """Return (chosen, grounds, breaks, most), or None if the paper has none of the forms for the verdict and n.

    chosen has the choice, if one is told. There have to be breaks for all choices that cost at most
    so much, or for all if most is None.
    """
    if verdict == "shown" and n is None:
        return ((), (), paper, None)
    if verdict == "shown":
        return (paper[:1], paper[1], paper[2], n - 1) if is_tuple(paper, 3, 3) else None
    if is_tuple(paper, 3, 3) and paper[0] == "less":
        return (paper[1:2], paper[2], (), -1)
    if is_tuple(paper, 2, 2) and paper[0] == "more" and n is not None:
        return ((), (), paper[1], n)
    return None


def is_choice(program, options, value):
    """Return whether value is a choice."""
    many = len(options)
    # True is no index, though Python finds it among the indices.
    if not is_tuple(value, 0, many) or not all([is_in_range(index, 0, many - 1) for index in value]):
        return False
    return value in choices_up_to(program, options, None)


def have_grounds_form(changed, wishes, grounds):
    """Return whether the grounds are a tuple of what shows in the changed program that each wish is kept."""
    many = len(wishes)
    if not is_tuple(grounds, many, many):
        return False
    for wish, paper in zip(wishes, grounds):
        if not has_form(claim_for(changed, wish), verdict_for(wish, True), paper):
            return False
    return True


def have_breaks_form(claim, breaks, asked):
    """Return whether the breaks are a tuple of a break for each choice that is asked for."""
    program, wishes, options = claim[1:4]
    if not is_tuple(breaks, len(asked), len(asked)):
        return False
    for choice, gap in zip(asked, breaks):
        if not is_tuple(gap, 2, 2) or not is_in_range(gap[0], 0, len(wishes) - 1):
            return False
        wish = wishes[gap[0]]
        changed = with_choice(program, options, choice)
        if not has_form(claim_for(changed, wish), verdict_for(wish, False), gap[1]):
            return False
    return True
