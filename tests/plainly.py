"""The definitions of the document, told as plainly and as slowly as can be, to compare the program with."""

import itertools


def plain_variables(rule):
    return sorted({term for _, terms in rule[1] for term in terms if term < 0}, reverse=True)


def plain_fact(rule, atom, values):
    variables = plain_variables(rule)
    return (atom[0], tuple(term if term >= 0 else values[variables.index(term)] for term in atom[1]))


def plain_body(rule, values):
    return tuple(plain_fact(rule, atom, values) for atom in rule[1])


def plain_unlike(rule, values):
    pairs = [plain_fact(rule, (0, pair), values)[1] for pair in rule[2]]
    return all(one != other for one, other in pairs)


def plain_values_for(rule, facts):
    there = set(facts)
    # A variable stands in the body, so that its value is a thing of some fact.
    things = sorted({thing for _, told in facts for thing in told})
    return tuple(
        values for values in itertools.product(things, repeat=len(plain_variables(rule)))
        if plain_unlike(rule, values) and set(plain_body(rule, values)) <= there
    )


def plain_led_by(rule, facts):
    return tuple(sorted({plain_fact(rule, rule[0], values) for values in plain_values_for(rule, facts)}))


def plain_rounds(program, facts):
    """All rounds up to the model."""
    rounds = [tuple(sorted(facts))]
    while True:
        led = [fact for rule in program[1] for fact in plain_led_by(rule, rounds[-1])]
        longer = tuple(sorted({*rounds[-1], *led}))
        if longer == rounds[-1]:
            return rounds
        rounds.append(longer)


def is_integer(value):
    return type(value) is int


def plain_is_instance(program, index, values):
    """Whether this is a rule and values for it whose pairs are unlike."""
    if not is_integer(index) or not 0 <= index < len(program[1]) or type(values) is not tuple:
        return False
    rule = program[1][index]
    if len(values) != len(plain_variables(rule)):
        return False
    return all(is_integer(value) and 0 <= value <= 29 for value in values) and plain_unlike(rule, values)


def plain_is_reason(program, facts, fact, entries):
    if type(entries) is not tuple or len(entries) > 5400:
        return False
    heads = []
    for entry in entries:
        if type(entry) is not tuple or len(entry) != 2 or not plain_is_instance(program, *entry):
            return False
        rule = program[1][entry[0]]
        if any(part not in facts and part not in heads for part in plain_body(rule, entry[1])):
            return False
        heads.append(plain_fact(rule, rule[0], entry[1]))
    return fact == heads[-1] if heads else fact in facts


def is_in_order(known, values):
    """Whether each value is known, one before it, or the least new thing that is not before it."""
    for index, value in enumerate(values):
        free = [thing for thing in range(30) if thing not in known and thing not in values[:index]]
        if value not in known and value not in values[:index] and value != free[0]:
            return False
    return True


def plain_ways(rule, known):
    # Four variables and ten known things: no value is above 13.
    return [
        values for values in itertools.product(range(14), repeat=len(plain_variables(rule)))
        if plain_unlike(rule, values) and is_in_order(known, values)
    ]


def plain_root(program, tree):
    rule = program[1][tree[0]]
    return plain_fact(rule, rule[0], tree[1])


def plain_is_tree(program, value):
    if type(value) is not tuple or len(value) != 3 or not plain_is_instance(program, *value[:2]):
        return False
    body = plain_body(program[1][value[0]], value[1])
    if type(value[2]) is not tuple or len(value[2]) != len(body):
        return False
    return all(
        (type(part) is tuple and part == ()) or (plain_is_tree(program, part) and plain_root(program, part) == fact)
        for part, fact in zip(value[2], body)
    )


def plain_leaves(program, tree):
    leaves = set()
    for part, fact in zip(tree[2], plain_body(program[1][tree[0]], tree[1])):
        leaves |= {fact} if part == () else set(plain_leaves(program, part))
    return tuple(sorted(leaves))


def plain_depth(tree):
    return 1 + max([plain_depth(part) for part in tree[2] if part != ()], default=0)


def values_in(tree):
    """The sequence of all values of the tree, first the root's, then those of its parts."""
    return list(tree[1]) + [value for part in tree[2] if part != () for value in values_in(part)]


def all_trees(program, things, depth):
    """All trees of at most this depth whose values are among the things."""
    if depth == 0:
        return []
    lower = {}
    for tree in all_trees(program, things, depth - 1):
        lower.setdefault(plain_root(program, tree), []).append(tree)
    trees = []
    for index, rule in enumerate(program[1]):
        for values in itertools.product(things, repeat=len(plain_variables(rule))):
            if plain_unlike(rule, values):
                choices = [[(), *lower.get(fact, [])] for fact in plain_body(rule, values)]
                trees += [(index, values, parts) for parts in itertools.product(*choices)]
    return trees
