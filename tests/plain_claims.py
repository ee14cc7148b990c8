"""Points 13 to 16 of the document, told as plainly and as slowly as can be, to compare the program with."""

import itertools

from leadalike.errors import InvalidFacts, LimitExceeded
from leadalike.facts import require_facts
from leadalike.programs import known_by_either, known_things
from leadalike.trees import plain_trees
from tests.plainly import (
    is_integer, plain_body, plain_depth, plain_fact, plain_leaves, plain_led_by, plain_root, plain_rounds,
    plain_unlike, plain_variables, plain_ways,
)


def plain_model(program, facts):
    return plain_rounds(program, facts)[-1]


def plain_round(program, facts, k):
    rounds = plain_rounds(program, facts)
    return rounds[min(k, len(rounds) - 1)]


def plain_head(rule, values):
    return plain_fact(rule, rule[0], values)


def plain_facts_of(rule, values):
    return tuple(sorted(set(plain_body(rule, values))))


def all_plain_trees(program, depth):
    """All plain trees, or None if there are more than 1,000."""
    try:
        return plain_trees(program, depth, tries=1000)
    except LimitExceeded:
        return None


def plain_enough(program, k):
    """Whether k rounds are enough, or None if there are more than 1,000 plain trees."""
    trees = all_plain_trees(program, k + 1)
    if trees is None:
        return None
    return all(plain_root(program, tree) in plain_round(program, plain_leaves(program, tree), k) for tree in trees)


def plain_rule_without(rule, place):
    """The rule without the condition, or None if that is no rule."""
    head, body, unlike = rule
    conditions = [("atom", atom) for atom in body] + [("pair", pair) for pair in unlike]
    del conditions[place]
    changed = (head, tuple(part for word, part in conditions if word == "atom"),
               tuple(part for word, part in conditions if word == "pair"))
    terms = [*head[1], *(term for pair in changed[2] for term in pair)]
    return changed if all(term >= 0 or term in plain_variables(changed) for term in terms) else None


def ways_asked(claim):
    """The rules whose ways are asked for, the known things, and the program that has to lead to their heads."""
    if claim[0] == "within":
        return claim[1][1], known_by_either(claim[1], claim[2]), claim[2]
    _, program, index, place = claim
    rule = program[1][index]
    if place is None:
        return (rule,), known_things(program), (program[0], tuple(each for each in program[1] if each != rule))
    return (plain_rule_without(rule, place),), known_things(program), program


def plain_choices(program, options):
    found = []
    for many in range(len(options) + 1):
        for choice in itertools.combinations(range(len(options)), many):
            rules = [options[index][1] for index in choice]
            if len(rules) == len(set(rules)) and len(plain_changed(program, options, choice)[1]) <= 6:
                found.append((plain_cost(options, choice), choice))
    return [choice for _, choice in sorted(found)]


def plain_changed(program, options, choice):
    rules = set(program[1])
    for index in choice:
        word, rule, _ = options[index]
        rules = rules | {rule} if word == "put" else rules - {rule}
    return (program[0], tuple(sorted(rules)))


def plain_cost(options, choice):
    return sum(options[index][2] for index in choice)


def plain_wish_claim(program, wish):
    if wish[0] in ("within", "over"):
        pair = (program, wish[1]) if wish[0] == "within" else (wish[1], program)
        return ("within", *pair)
    return ("leads", program, *wish[1:])


def plain_keeps(program, wish):
    return plain_is_so(plain_wish_claim(program, wish)) != (wish[0] == "spares")


def plain_mend(program, wishes, options):
    for choice in plain_choices(program, options):
        if all(plain_keeps(plain_changed(program, options, choice), wish) for wish in wishes):
            return choice
    return None


def plain_is_so(claim):
    """Whether a valid claim is so."""
    if claim[0] == "leads":
        return claim[3] in plain_model(claim[1], claim[2])
    if claim[0] == "rounds":
        return plain_enough(claim[1], claim[2])
    if claim[0] == "mend":
        _, program, wishes, options, n = claim
        choice = plain_mend(program, wishes, options)
        return n is None if choice is None else n == plain_cost(options, choice)
    rules, known, target = ways_asked(claim)
    return all(
        plain_head(rule, values) in plain_model(target, plain_facts_of(rule, values))
        for rule in rules for values in plain_ways(rule, known)
    )


class NoForm(Exception):
    pass


def demand(test):
    if not test:
        raise NoForm()


def is_index(value, many):
    return is_integer(value) and 0 <= value < many


def demand_tuple(value, many):
    demand(type(value) is tuple and len(value) == many)


def demand_values(rule, value):
    demand_tuple(value, len(plain_variables(rule)))
    demand(all(is_index(thing, 30) for thing in value))


def demand_instance(program, index, values):
    demand(is_index(index, len(program[1])))
    demand_values(program[1][index], values)


def demand_reason(program, value):
    demand(type(value) is tuple and len(value) <= 5400)
    for entry in value:
        demand_tuple(entry, 2)
        demand_instance(program, *entry)


def demand_facts(program, value):
    try:
        require_facts(program[0], value)
    except InvalidFacts:
        raise NoForm()


def demand_tree(program, value):
    demand_tuple(value, 3)
    index, values, parts = value
    demand_instance(program, index, values)
    demand_tuple(parts, len(program[1][index][1]))
    for part in parts:
        if not (type(part) is tuple and len(part) == 0):
            demand_tree(program, part)


def demand_form(claim, verdict, paper):
    {
        "leads": demand_leads, "within": demand_ways, "needless": demand_ways, "rounds": demand_rounds,
        "mend": demand_mend,
    }[claim[0]](claim, verdict, paper)


def demand_leads(claim, verdict, paper):
    demand_reason(claim[1], paper) if verdict == "shown" else demand_facts(claim[1], paper)


def demand_ways(claim, verdict, paper):
    rules, known, target = ways_asked(claim)
    if verdict == "broken":
        demand_tuple(paper, 3 if claim[0] == "within" else 2)
        index, values, facts = paper if claim[0] == "within" else (0, *paper)
        demand(is_index(index, len(rules)))
        demand_values(rules[index], values)
        demand_facts(target, facts)
        return
    ways = [plain_ways(rule, known) for rule in rules]
    demand(sum(len(each) for each in ways) <= 1000)
    if claim[0] == "needless":
        paper = (paper,)
    demand_tuple(paper, len(rules))
    for reasons, each in zip(paper, ways):
        demand_tuple(reasons, len(each))
        for reason in reasons:
            demand_reason(target, reason)


def demand_rounds(claim, verdict, paper):
    _, program, k = claim
    if verdict == "broken":
        demand_tuple(paper, 2)
        demand_tree(program, paper[0])
        demand_tuple(paper[1], k)
        for facts in paper[1]:
            demand_facts(program, facts)
        return
    trees = all_plain_trees(program, k + 1)
    demand(trees is not None)
    demand_tuple(paper, len(trees))
    for part in paper:
        if not (type(part) is tuple and len(part) == 0):
            demand_tree(program, part)


def demand_mend(claim, verdict, paper):
    _, program, wishes, options, n = claim
    every = plain_choices(program, options)
    cheaper = [choice for choice in every if n is not None and plain_cost(options, choice) < n]
    if verdict == "shown" and n is None:
        demand_breaks(claim, every, paper)
    elif verdict == "shown":
        demand_tuple(paper, 3)
        demand_grounds(claim, every, paper[0], paper[1])
        demand_breaks(claim, cheaper, paper[2])
    else:
        demand(type(paper) is tuple and len(paper) in (2, 3) and type(paper[0]) is str)
        if len(paper) == 3:
            demand(paper[0] == "less")
            demand_grounds(claim, every, paper[1], paper[2])
        else:
            demand(paper[0] == "more" and n is not None)
            most = [choice for choice in every if plain_cost(options, choice) <= n]
            demand_breaks(claim, most, paper[1])


def demand_grounds(claim, every, choice, grounds):
    _, program, wishes, options, _ = claim
    demand(type(choice) is tuple and all(is_integer(index) for index in choice) and choice in every)
    demand_tuple(grounds, len(wishes))
    for wish, ground in zip(wishes, grounds):
        demand_shows(plain_changed(program, options, choice), wish, True, ground)


def demand_breaks(claim, asked, breaks):
    _, program, wishes, options, _ = claim
    demand_tuple(breaks, len(asked))
    for choice, gap in zip(asked, breaks):
        demand_tuple(gap, 2)
        demand(is_index(gap[0], len(wishes)))
        demand_shows(plain_changed(program, options, choice), wishes[gap[0]], False, gap[1])


def plain_wish_verdict(wish, is_kept):
    if wish[0] == "spares":
        return "broken" if is_kept else "shown"
    return "shown" if is_kept else "broken"


def demand_shows(changed, wish, is_kept, paper):
    demand_form(plain_wish_claim(changed, wish), plain_wish_verdict(wish, is_kept), paper)


def plain_first_fault(certificate, is_claim):
    """The first fault of a certificate; is_claim tells whether its claim is valid."""
    if type(certificate) is not tuple or len(certificate) != 3:
        return ("form",)
    if not is_claim(certificate[1]):
        return ("claim",)
    verdict, claim, paper = certificate
    try:
        demand(type(verdict) is str and verdict in ("shown", "broken"))
        demand_form(claim, verdict, paper)
    except NoForm:
        return ("paper",)
    return next(faults(claim, verdict, paper), None)


def faults(claim, verdict, paper):
    """Yield the faults of a paper that has the form; only the first one counts."""
    if claim[0] == "leads":
        _, program, facts, fact = claim
        yield from lead_faults(program, facts, fact, verdict, paper)
    elif claim[0] == "rounds":
        yield from round_faults(claim, verdict, paper)
    elif claim[0] == "mend":
        yield from mend_faults(claim, verdict, paper)
    else:
        yield from way_faults(claim, verdict, paper)


def lead_faults(program, facts, fact, verdict, paper):
    if verdict == "shown":
        there = list(facts)
        last = None
        for e, (index, values) in enumerate(paper):
            rule = program[1][index]
            if not plain_unlike(rule, values) or not set(plain_body(rule, values)) <= set(there):
                yield ("entry", e)
            last = plain_head(rule, values)
            there.append(last)
        if (last != fact) if paper else (fact not in facts):
            yield ("misses",)
        return
    for given in facts:
        if given not in paper:
            yield ("given", given)
    led = sorted({each for rule in program[1] for each in plain_led_by(rule, paper)})
    for each in led:
        if each not in paper:
            yield ("open", each)
    if fact in paper:
        yield ("there",)


def way_faults(claim, verdict, paper):
    rules, known, target = ways_asked(claim)
    if verdict == "broken":
        index, values, facts = paper if claim[0] == "within" else (0, *paper)
        rule = rules[index]
        if values not in plain_ways(rule, known):
            yield ("way",)
        yield from lead_faults(target, plain_facts_of(rule, values), plain_head(rule, values), "broken", facts)
        return
    for i, rule in enumerate(rules):
        reasons = paper[i] if claim[0] == "within" else paper
        for w, values in enumerate(plain_ways(rule, known)):
            head = plain_head(rule, values)
            for fault in lead_faults(target, plain_facts_of(rule, values), head, "shown", reasons[w]):
                yield ("rule", i, w, fault) if claim[0] == "within" else ("rule", w, fault)


def is_plain_sound(program, tree):
    index, values, parts = tree
    rule = program[1][index]
    return plain_unlike(rule, values) and all(
        part == () or (plain_root(program, part) == fact and is_plain_sound(program, part))
        for part, fact in zip(parts, plain_body(rule, values))
    )


def round_faults(claim, verdict, paper):
    _, program, k = claim
    if verdict == "shown":
        for t, (plain, tree) in enumerate(zip(plain_trees(program, k + 1, tries=1000), paper)):
            for fault in tree_faults(program, k, plain, tree):
                yield ("tree", t, fault)
        return
    tree, sets = paper
    yield from growth_faults(program, k + 1, tree)
    before = plain_leaves(program, tree)
    for i, facts in enumerate(sets):
        for fact in plain_round(program, before, 1):
            if fact not in facts:
                yield ("open", i, fact)
        before = facts
    if plain_root(program, tree) in before:
        yield ("there",)


def growth_faults(program, most, tree):
    if plain_depth(tree) > most:
        yield ("deep",)
    if not is_plain_sound(program, tree):
        yield ("part",)


def tree_faults(program, k, plain, tree):
    leaves = plain_leaves(program, plain)
    if tree == ():
        if plain_root(program, plain) not in leaves:
            yield ("root",)
        return
    yield from growth_faults(program, k, tree)
    if plain_root(program, tree) != plain_root(program, plain):
        yield ("root",)
    for leaf in plain_leaves(program, tree):
        if leaf not in leaves:
            yield ("leaf", leaf)


def mend_faults(claim, verdict, paper):
    _, program, wishes, options, n = claim
    every = plain_choices(program, options)
    if verdict == "shown" and n is None:
        yield from break_faults(claim, every, paper)
    elif verdict == "shown":
        if plain_cost(options, paper[0]) != n:
            yield ("cost",)
        yield from ground_faults(claim, paper[0], paper[1])
        yield from break_faults(claim, [each for each in every if plain_cost(options, each) < n], paper[2])
    elif paper[0] == "less":
        if n is not None and plain_cost(options, paper[1]) >= n:
            yield ("cost",)
        yield from ground_faults(claim, paper[1], paper[2])
    else:
        yield from break_faults(claim, [each for each in every if plain_cost(options, each) <= n], paper[1])


def ground_faults(claim, choice, grounds):
    _, program, wishes, options, _ = claim
    changed = plain_changed(program, options, choice)
    for w, (wish, ground) in enumerate(zip(wishes, grounds)):
        for fault in faults(plain_wish_claim(changed, wish), plain_wish_verdict(wish, True), ground):
            yield ("ground", w, fault)


def break_faults(claim, asked, breaks):
    _, program, wishes, options, _ = claim
    for c, (choice, (index, paper)) in enumerate(zip(asked, breaks)):
        changed = plain_changed(program, options, choice)
        wish = wishes[index]
        for fault in faults(plain_wish_claim(changed, wish), plain_wish_verdict(wish, False), paper):
            yield ("break", c, fault)
