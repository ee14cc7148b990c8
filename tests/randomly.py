"""Rules, programs and facts drawn from a source of random numbers that the test seeds."""

from leadalike.errors import InvalidProgram
from leadalike.programs import require_program
from leadalike.trimming import rule_without


def draw_atom(source, kinds, terms):
    kind = source.randrange(len(kinds))
    return (kind, tuple(source.choice(terms) for _ in range(kinds[kind])))


def draw_rule(source, kinds, things, variables):
    """A rule with some of the things and at most so many variables."""
    while True:
        terms = [-1 - number for number in range(variables)] + [thing for thing in things if source.random() < 0.4]
        terms = terms or [0]
        body = tuple(draw_atom(source, kinds, terms) for _ in range(source.randint(0, 3)))
        pairs = {tuple(sorted((source.choice(terms), source.choice(terms)))) for _ in range(source.randint(0, 3))}
        unlike = tuple(sorted(pair for pair in pairs if pair[0] != pair[1]))
        rule = (draw_atom(source, kinds, terms), body, unlike)
        try:
            require_program((kinds, (rule,)))
        except InvalidProgram:
            continue
        return rule


def draw_program(source, kinds, things, variables, most=6):
    rules = {draw_rule(source, kinds, things, variables) for _ in range(source.randint(0, most))}
    return require_program((kinds, tuple(sorted(rules))))


def draw_facts(source, kinds, things, many):
    return tuple(sorted({draw_atom(source, kinds, things) for _ in range(many)}))


def draw_option(source, program):
    """An option for the program: one of its rules to drop, or one that it lacks to put."""
    kinds, rules = program
    if rules and source.random() < 0.5:
        return ("drop", source.choice(rules), source.randint(0, 4))
    while True:
        rule = draw_rule(source, kinds, (0, 1), 2)
        if rule not in rules:
            return ("put", rule, source.randint(0, 4))


def draw_options(source, program):
    options = [draw_option(source, program) for _ in range(source.randint(1, 3))]
    if source.random() < 0.2:
        options[0] = (*options[-1][:2], 5)
    return tuple(options)


def draw_wish(source, program):
    """A wish that the program may or may not keep: a near program, or facts and a fact."""
    kinds = program[0]
    if source.random() < 0.5:
        return (source.choice(("within", "over")), near_program(source, program))
    facts = draw_facts(source, kinds, (0, 1, 2), source.randint(0, 4))
    return (source.choice(("leads", "spares")), facts, draw_atom(source, kinds, (0, 1, 2)))


def near_program(source, program):
    """A program of the same kinds that has most rules of the program, and some others."""
    kinds, rules = program
    near = [rule for rule in rules if source.random() < 0.7]
    near += draw_program(source, kinds, (0, 1), 2, 2)[1]
    return (kinds, tuple(sorted(set(near)))[:6])


def draw_claim(source):
    """A valid claim of one of the five words."""
    word = source.choice(("leads", "within", "needless", "rounds", "mend"))
    kinds = draw_kinds(source)
    program = draw_program(source, kinds, source.choice(((), (0,), (0, 1))), source.randint(0, 2), 4)
    if word == "leads":
        facts = draw_facts(source, kinds, (0, 1, 2), source.randint(0, 5))
        return (word, program, facts, draw_atom(source, kinds, (0, 1, 2)))
    if word == "within":
        other = near_program(source, program)
        return (word, program, other) if source.random() < 0.5 else (word, other, program)
    if word == "needless":
        return draw_needless(source, program) if program[1] else draw_claim(source)
    if word == "rounds":
        return (word, program, source.randint(0, 2))
    wishes = tuple(draw_wish(source, program) for _ in range(source.randint(1, 3)))
    return (word, program, wishes, draw_options(source, program), source.choice((None, 0, 0, 1, 2, 3, 4, 5)))


def draw_needless(source, program):
    index = source.randrange(len(program[1]))
    rule = program[1][index]
    places = [place for place in range(len(rule[1]) + len(rule[2])) if rule_without(rule, place) is not None]
    return ("needless", program, index, source.choice([None, *places]))


def draw_kinds(source):
    return tuple(source.randint(0, 2) for _ in range(source.randint(1, 4)))


def altered(source, value):
    """The value with some part of it exchanged, left out, put in twice, turned round, or made greater or less."""
    if isinstance(value, (tuple, list)) and value and source.random() < 0.85:
        index = source.randrange(len(value))
        parts = list(value)
        change = source.randrange(8)
        if change == 0:
            del parts[index]
        elif change == 1:
            parts.insert(index, parts[index])
        elif change == 2:
            parts.reverse()
        elif change == 3:
            other = source.randrange(len(value))
            parts[index], parts[other] = parts[other], parts[index]
        else:
            parts[index] = altered(source, parts[index])
        return tuple(parts)
    strays = [None, True, False, "", "ab", (), [], {}, -1, 0, 1, 30, 10 ** 30, (0,), (0, (), ()), ((),), [0, (1,)]]
    if isinstance(value, int) and not isinstance(value, bool):
        strays += [value + 1, value - 1, bool(value), [value], (value,), str(value)]
    if isinstance(value, tuple):
        strays += [list(value), list(value), value + (0,), (value,), value[:-1]]
    return source.choice(strays)


def nudged(source, value):
    """The value with one part of it exchanged for a near one, so that its form is often as before."""
    if isinstance(value, int):
        return source.choice((value + 1, value - 1, 0, 1, 2, 3))
    if not isinstance(value, tuple) or not value:
        return source.choice((value, (), ((0, ()),), (0, (0,), ())))
    parts = list(value)
    index = source.randrange(len(parts))
    change = source.randrange(10)
    if change == 0:
        del parts[index]
    elif change == 1:
        parts[index] = source.choice(parts)
    elif change == 2 and all(isinstance(part, tuple) and len(part) == 2 for part in parts):
        # Where the parts are facts, there is one more.
        more = nudged(source, parts[index])
        parts = sorted({*parts, more}, key=repr) if isinstance(more, tuple) else parts
    elif change == 3 and isinstance(parts[index], tuple):
        parts[index] = ()
    else:
        parts[index] = nudged(source, parts[index])
    return tuple(parts)
