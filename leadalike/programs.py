"""Programs: kinds of facts, and rules over them."""

from leadalike.errors import InvalidProgram
from leadalike.facts import first_wrong, is_in_range, is_of_kind, is_tuple

LEAST_TERM = -4
MOST_TERM = 9
VARIABLES = (-1, -2, -3, -4)
MOST_KINDS = 6
MOST_THINGS_TOLD = 2
MOST_ATOMS = 3
MOST_PAIRS = 3
MOST_RULES = 6


def are_kinds(value):
    """Return whether value is a tuple of kinds."""
    return is_tuple(value, 1, MOST_KINDS) and all([is_in_range(many, 0, MOST_THINGS_TOLD) for many in value])


def is_atom(kinds, value):
    """Return whether value is an atom of one of the kinds."""
    return is_of_kind(kinds, value, LEAST_TERM, MOST_TERM)


def is_body(kinds, value):
    """Return whether value is a tuple of as many atoms as a body may have."""
    return is_tuple(value, 0, MOST_ATOMS) and all([is_atom(kinds, atom) for atom in value])


def is_pair(value):
    """Return whether value is two terms, the first one less than the second one."""
    if not is_tuple(value, 2, 2):
        return False
    return all([is_in_range(term, LEAST_TERM, MOST_TERM) for term in value]) and value[0] < value[1]


def are_pairs(value):
    """Return whether value is a set of as many pairs as a rule may have."""
    return is_tuple(value, 0, MOST_PAIRS) and first_wrong(value, is_pair) is None


def terms_of_atoms(atoms):
    """Return the list of all terms of the atoms."""
    return [term for atom in atoms for term in atom[1]]


def terms_of_rule(rule):
    """Return the list of all terms of the head, the body and the pairs."""
    head, body, unlike = rule
    return terms_of_atoms((head, *body)) + [term for pair in unlike for term in pair]


def is_rule(kinds, value):
    """Return whether value is a rule of these kinds."""
    if not is_tuple(value, 3, 3):
        return False
    head, body, unlike = value
    if not is_atom(kinds, head) or not is_body(kinds, body) or not are_pairs(unlike):
        return False
    bound = variables_of(value)
    return all([term >= 0 or term in bound for term in terms_of_rule(value)])


def require_program(value):
    """Return value if it is a program, else raise InvalidProgram."""
    if not is_tuple(value, 2, 2):
        raise InvalidProgram(None)
    kinds, rules = value
    if not are_kinds(kinds):
        raise InvalidProgram("kinds")
    if not is_tuple(rules, 0, MOST_RULES):
        raise InvalidProgram("rules")
    index = first_wrong(rules, lambda rule: is_rule(kinds, rule))
    if index is not None:
        raise InvalidProgram(index)
    return value


def is_program(value):
    """Return whether value is a program."""
    try:
        require_program(value)
    except InvalidProgram:
        return False
    return True


def variables_of(rule):
    """Return the variables of the rule's body, from -1 on downwards."""
    terms = terms_of_atoms(rule[1])
    return tuple([variable for variable in VARIABLES if variable in terms])


def known_things(program):
    """Return the set of the things that stand in the program's rules."""
    return tuple(sorted({term for rule in program[1] for term in terms_of_rule(rule) if term >= 0}))


def known_by_either(one, other):
    """Return the set of the known things of both programs."""
    return tuple(sorted(set(known_things(one) + known_things(other))))
