"""Claims about programs, and certificates that tell whether they are so."""

from leadalike.asking import asked_by, choices_up_to, claim_for, verdict_for
from leadalike.enough import MOST_ROUNDS_ASKED, smaller_tree
from leadalike.errors import InvalidClaim
from leadalike.facts import are_facts, is_fact, is_in_range
from leadalike.mends import MOST_WISHED_FACTS, are_options, are_wishes, choices, cost_of, with_choice
from leadalike.programs import is_program
from leadalike.putting import head_with
from leadalike.reasons import reason_by, reason_for
from leadalike.rounds import model, round_of
from leadalike.spreading import plans_of
from leadalike.trees import leaves_of, plain_trees
from leadalike.trimming import rule_without
from leadalike.ways import all_ways, facts_of

MOST_TOTAL_COST = 300
PARTS = {
    "leads": ("program", "facts", "fact"),
    "within": ("one", "other"),
    "needless": ("program", "index", "place"),
    "rounds": ("program", "k"),
    "mend": ("program", "wishes", "options", "n"),
}


def is_of_claim_kind(value):
    """Return whether value is a tuple of a claim's word and as many parts as it has."""
    if not isinstance(value, tuple) or not value:
        return False
    return isinstance(value[0], str) and value[0] in PARTS and len(value) == 1 + len(PARTS[value[0]])


def is_place(program, index, value):
    """Return whether value is None, or the place of a condition without which the rule is a rule."""
    rule = program[1][index]
    if value is None:
        return True
    return is_in_range(value, 0, len(rule[1]) + len(rule[2]) - 1) and rule_without(rule, value) is not None


def is_part_right(claim, name):
    """Return whether the part of this name is right; those before it are."""
    first, second = claim[1:3]
    if name in ("program", "one"):
        return is_program(first)
    if name == "facts":
        return are_facts(first[0], second, MOST_WISHED_FACTS)
    if name == "fact":
        return is_fact(first[0], claim[3])
    if name == "other":
        return is_program(second) and second[0] == first[0]
    if name == "index":
        return is_in_range(second, 0, len(first[1]) - 1)
    if name == "place":
        return is_place(first, second, claim[3])
    if name == "k":
        return is_in_range(second, 0, MOST_ROUNDS_ASKED)
    if name == "wishes":
        return are_wishes(first[0], second)
    if name == "options":
        return are_options(first, claim[3])
    return claim[4] is None or is_in_range(claim[4], 0, MOST_TOTAL_COST)


def require_claim(claim):
    """Return the claim if it is one, else raise InvalidClaim."""
    if not is_of_claim_kind(claim):
        raise InvalidClaim("kind")
    for name in PARTS[claim[0]]:
        if not is_part_right(claim, name):
            raise InvalidClaim(name)
    return claim


def decide(claim, *, tries=300):
    """Return a certificate that tells whether the claim is so."""
    require_claim(claim)
    verdict, paper = decided(claim, tries)
    return (verdict, claim, paper)


def decided(claim, tries):
    """Return the verdict and the paper for a valid claim."""
    if claim[0] == "leads":
        return leads_decided(claim)
    if claim[0] == "rounds":
        return rounds_decided(claim, tries)
    if claim[0] == "mend":
        return mend_decided(claim, tries)
    return ways_decided(claim, tries)


def leads_decided(claim):
    """Return the verdict and the paper for a claim "leads"."""
    _, program, facts, fact = claim
    reason = reason_for(program, facts, fact)
    return ("broken", model(program, facts)) if reason is None else ("shown", reason)


def ways_decided(claim, tries):
    """Return the verdict and the paper for a claim "within" or "needless"."""
    rules, known, target = asked_by(claim)
    plans = plans_of(target)
    reasons = [[] for _ in rules]
    for index, values in all_ways(rules, known, tries):
        rule = rules[index]
        facts = facts_of(rule, values)
        reason = reason_by(target, plans, facts, head_with(rule, values))
        if reason is None:
            told = (values, model(target, facts))
            return ("broken", (index, *told) if claim[0] == "within" else told)
        reasons[index].append(reason)
    papers = tuple([tuple(each) for each in reasons])
    return ("shown", papers if claim[0] == "within" else papers[0])


def rounds_decided(claim, tries):
    """Return the verdict and the paper for a claim "rounds"."""
    _, program, k = claim
    smaller = []
    for tree in plain_trees(program, k + 1, tries=tries):
        found = smaller_tree(program, tree, k)
        if found is None:
            leaves = leaves_of(program, tree)
            return ("broken", (tree, tuple([round_of(program, leaves, done + 1) for done in range(k)])))
        smaller.append(found)
    return ("shown", tuple(smaller))


def mend_decided(claim, tries):
    """Return the verdict and the paper for a claim "mend"."""
    _, program, wishes, options, n = claim
    choice, grounds, breaks = search(program, wishes, options, tries)
    cost = None if choice is None else cost_of(options, choice)
    if cost is not None and (n is None or cost < n):
        return ("broken", ("less", choice, grounds))
    if n is None:
        return ("shown", breaks)
    # The choices that were looked at before the first one that mends are those that cost the least.
    if cost == n:
        return ("shown", (choice, grounds, breaks[:len(choices_up_to(program, options, n - 1))]))
    return ("broken", ("more", breaks[:len(choices_up_to(program, options, n))]))


def search(program, wishes, options, tries):
    """Return the first choice that mends, or None, its grounds, and the breaks of the choices before it."""
    breaks = []
    for choice in choices(program, options):
        grounds, gap = looked_through(with_choice(program, options, choice), wishes, tries)
        if gap is None:
            return (choice, grounds, tuple(breaks))
        breaks.append(gap)
    return (None, (), tuple(breaks))


def looked_through(changed, wishes, tries):
    """Return what shows that the wishes are kept, and None or the break of the first one that is not."""
    grounds = []
    for index, wish in enumerate(wishes):
        verdict, paper = decided(claim_for(changed, wish), tries)
        if verdict == verdict_for(wish, False):
            return (tuple(grounds), (index, paper))
        grounds.append(paper)
    return (tuple(grounds), None)
