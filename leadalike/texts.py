"""Programs, written as texts and read from them."""

from leadalike.errors import ParseError
from leadalike.programs import MOST_RULES, are_kinds, is_rule

# What is written for a term; a digit stands for a number in other places, too.
TERMS = {
    "x1": -1, "x2": -2, "x3": -3, "x4": -4,
    "0": 0, "1": 1, "2": 2, "3": 3, "4": 4, "5": 5, "6": 6, "7": 7, "8": 8, "9": 9,
}


def format_program(program):
    """Return the text of the program."""
    kinds, rules = program
    first = " ".join(["kinds", *[str(many) for many in kinds]])
    lines = [first, *[format_rule(rule) for rule in rules]]
    return "".join([line + "\n" for line in lines])


def format_rule(rule):
    """Return the line of the rule, without its line end."""
    head, body, unlike = rule
    condition = " and ".join([format_atom(atom) for atom in body])
    pairs = [f" unless {format_term(one)} is {format_term(other)}" for one, other in unlike]
    return format_atom(head) + (" if " + condition if body else "") + "".join(pairs)


def format_atom(atom):
    """Return what is written for the atom."""
    kind, terms = atom
    told = ",".join([format_term(term) for term in terms])
    return f"k{kind}({told})"


def format_term(term):
    """Return what is written for the term."""
    return f"x{-term}" if term < 0 else str(term)


def parse_program(text):
    """Return the program that the text is of, else raise ParseError."""
    *lines, rest = text.split("\n")
    kinds = parse_kinds(lines[0]) if lines else None
    if not are_kinds(kinds):
        raise ParseError(0)
    rules = []
    for at, line in enumerate(lines[1:], start=1):
        rule = parse_rule(line)
        if len(rules) == MOST_RULES or not is_rule(kinds, rule) or (rules and rule <= rules[-1]):
            raise ParseError(at)
        rules.append(rule)
    if rest:
        raise ParseError(len(lines))
    return (kinds, tuple(rules))


def parse_kinds(line):
    """Return the integers of a line of kinds, None in the place of what is none, or None for any other line."""
    word, *words = line.split(" ")
    return tuple([TERMS.get(each) for each in words]) if word == "kinds" else None


def parse_rule(line):
    """Return the rule of the line; for any other line it is no rule, with None in the place of what is wrong."""
    first, *pairs = line.split(" unless ")
    head, *conditions = first.split(" if ")
    if len(conditions) > 1:
        return None
    body = [parse_atom(each) for condition in conditions for each in condition.split(" and ")]
    unlike = [tuple([TERMS.get(term) for term in pair.split(" is ")]) for pair in pairs]
    return (parse_atom(head), tuple(body), tuple(unlike))


def parse_atom(text):
    """Return the atom of the text, with None in the place of what is wrong, or None for any other text."""
    if not text.startswith("k") or text[2:3] != "(" or not text.endswith(")"):
        return None
    told = text[3:-1]
    terms = told.split(",") if told else []
    return (TERMS.get(text[1]), tuple([TERMS.get(term) for term in terms]))
