"""Checking certificates, whoever wrote them."""

from leadalike.asking import asked_by, choices_up_to, claim_for, verdict_for
from leadalike.claims import require_claim
from leadalike.errors import InvalidClaim
from leadalike.facts import first_missing, is_tuple
from leadalike.forms import MOST_LOOKED_AT, has_form, mend_parts
from leadalike.mends import cost_of, with_choice
from leadalike.putting import head_with
from leadalike.reasons import reason_fault
from leadalike.rounds import next_round
from leadalike.trees import depth_of, is_sound, leaves_of, plain_trees, root_of
from leadalike.ways import facts_of, is_way, ways_of


def first_fault(certificate):
    """Return the first fault of what may be a certificate, or None if it is right."""
    if not is_tuple(certificate, 3, 3):
        return ("form",)
    verdict, claim, paper = certificate
    try:
        require_claim(claim)
    except InvalidClaim:
        return ("claim",)
    if verdict not in ("shown", "broken") or not has_form(claim, verdict, paper):
        return ("paper",)
    return fault_of(claim, verdict, paper)


def fault_of(claim, verdict, paper):
    """Return the first fault of a paper that has the form for the claim and the verdict, or None."""
    if claim[0] == "leads":
        _, program, facts, fact = claim
        if verdict == "shown":
            return reason_fault(program, facts, fact, paper)
        return facts_fault(program, facts, fact, paper)
    if claim[0] == "rounds":
        return trees_fault(claim, paper) if verdict == "shown" else late_fault(claim, paper)
    if claim[0] == "mend":
        return mend_fault(claim, verdict, paper)
    if verdict == "shown":
        return ways_fault(claim, paper)
    return way_fault(asked_by(claim), paper if claim[0] == "within" else (0, *paper))


def facts_fault(program, given, fact, facts):
    """Return the first fault of facts that have to be closed and to have those given, but not the fact, or None."""
    missing = first_missing(given, facts)
    if missing is not None:
        return ("given", missing)
    missing = first_missing(next_round(program, facts), facts)
    if missing is not None:
        return ("open", missing)
    return ("there",) if fact in facts else None


def ways_fault(claim, paper):
    """Return the first fault of the reasons for all ways that a claim "within" or "needless" asks for, or None."""
    rules, known, target = asked_by(claim)
    for index, rule in enumerate(rules):
        reasons = paper[index] if claim[0] == "within" else paper
        ways = list(ways_of(rule, known))
        for at, values in enumerate(ways):
            fault = reason_fault(target, facts_of(rule, values), head_with(rule, values), reasons[at])
            if fault is not None:
                return ("rule", index, at, fault) if claim[0] == "within" else ("rule", at, fault)
    return None


def way_fault(asked, paper):
    """Return the first fault of a way from whose facts the target has to be unable to lead to the head, or None."""
    rules, known, target = asked
    index, values, facts = paper
    rule = rules[index]
    if not is_way(rule, values, known):
        return ("way",)
    return facts_fault(target, facts_of(rule, values), head_with(rule, values), facts)


def trees_fault(claim, paper):
    """Return the first fault of the trees that have to stand for all plain trees, or None."""
    _, program, k = claim
    for at, plain in enumerate(plain_trees(program, k + 1, tries=MOST_LOOKED_AT)):
        fault = tree_fault(program, k, plain, paper[at])
        if fault is not None:
            return ("tree", at, fault)
    return None


def tree_fault(program, k, plain, tree):
    """Return the first fault of the tree, or (), that has to stand for the plain tree, or None."""
    root = root_of(program, plain)
    leaves = leaves_of(program, plain)
    if tree == ():
        return None if root in leaves else ("root",)
    fault = growth_fault(program, tree, k)
    if fault is not None:
        return fault
    if root_of(program, tree) != root:
        return ("root",)
    missing = first_missing(leaves_of(program, tree), leaves)
    return None if missing is None else ("leaf", missing)


def growth_fault(program, tree, most):
    """Return the first fault of what has to be a tree of at most this depth, or None."""
    if depth_of(tree) > most:
        return ("deep",)
    return None if is_sound(program, tree) else ("part",)


def late_fault(claim, paper):
    """Return the first fault of a tree whose root the round k of its leaves has to lack, or None."""
    _, program, k = claim
    tree, sets = paper
    fault = growth_fault(program, tree, k + 1)
    if fault is not None:
        return fault
    facts = leaves_of(program, tree)
    for at, longer in enumerate(sets):
        missing = first_missing(next_round(program, facts), longer)
        if missing is not None:
            return ("open", at, missing)
        facts = longer
    return ("there",) if root_of(program, tree) in facts else None


def mend_fault(claim, verdict, paper):
    """Return the first fault of a paper for a claim "mend", or None."""
    program, wishes, options, n = claim[1:]
    chosen, grounds, breaks, most = mend_parts(verdict, n, paper)
    for choice in chosen:
        if is_cost_wrong(verdict, n, cost_of(options, choice)):
            return ("cost",)
        fault = grounds_fault(with_choice(program, options, choice), wishes, grounds)
        if fault is not None:
            return fault
    return breaks_fault(claim, breaks, choices_up_to(program, options, most))


def is_cost_wrong(verdict, n, cost):
    """Return whether the cost is not n, or for "broken" not below n."""
    if verdict == "shown":
        return cost != n
    return n is not None and cost >= n


def grounds_fault(changed, wishes, grounds):
    """Return the first fault of what has to show that the changed program keeps the wishes, or None."""
    for at, wish in enumerate(wishes):
        fault = fault_of(claim_for(changed, wish), verdict_for(wish, True), grounds[at])
        if fault is not None:
            return ("ground", at, fault)
    return None


def breaks_fault(claim, breaks, asked):
    """Return the first fault of what has to show that a wish is not kept with each choice asked for, or None."""
    program, wishes, options = claim[1:4]
    for at, choice in enumerate(asked):
        index, paper = breaks[at]
        changed = with_choice(program, options, choice)
        fault = fault_of(claim_for(changed, wishes[index]), verdict_for(wishes[index], False), paper)
        if fault is not None:
            return ("break", at, fault)
    return None
