"""Rules, programs and facts drawn from a source of random numbers that the test seeds."""

from leadalike.errors import InvalidProgram
from leadalike.programs import require_program


def draw_atom(source, kinds, terms):
    kind = source.randrange(len(kinds))
    return (kind, tuple(source.choice(terms) for _ in range(kinds[kind])))


def draw_rule(source, kinds, things, variables):
    """A rule with some of the things and at most so many variables."""
    while True:
        terms = [-1 - number for number in range(variables)] + [thing for thing in things if source.random() < 0.4]
        terms = terms or [0]
        body = tuple(draw_atom(source, kinds, terms) for _ in range(source.randint(0, 3)))
        pairs = {tuple(sorted((source.choice(terms), source.choice(terms)))) for _ in range(source.randint(0, 3))}
        unlike = tuple(sorted(pair for pair in pairs if pair[0] != pair[1]))
        rule = (draw_atom(source, kinds, terms), body, unlike)
        try:
            require_program((kinds, (rule,)))
        except InvalidProgram:
            continue
        return rule


def draw_program(source, kinds, things, variables, most=6):
    rules = {draw_rule(source, kinds, things, variables) for _ in range(source.randint(0, most))}
    return require_program((kinds, tuple(sorted(rules))))


def draw_facts(source, kinds, things, many):
    return tuple(sorted({draw_atom(source, kinds, things) for _ in range(many)}))


def draw_kinds(source):
    return tuple(source.randint(0, 2) for _ in range(source.randint(1, 4)))


def altered(source, value):
    """The value with some part of it exchanged, left out, put in twice, turned round, or made greater or less."""
    if isinstance(value, (tuple, list)) and value and source.random() < 0.85:
        index = source.randrange(len(value))
        parts = list(value)
        change = source.randrange(8)
        if change == 0:
            del parts[index]
        elif change == 1:
            parts.insert(index, parts[index])
        elif change == 2:
            parts.reverse()
        elif change == 3:
            other = source.randrange(len(value))
            parts[index], parts[other] = parts[other], parts[index]
        else:
            parts[index] = altered(source, parts[index])
        return tuple(parts)
    strays = [None, True, False, "", "ab", (), [], {}, -1, 0, 1, 30, 10 ** 30, (0,), (0, (), ()), ((),), [0, (1,)]]
    if isinstance(value, int) and not isinstance(value, bool):
        strays += [value + 1, value - 1, bool(value), [value], (value,), str(value)]
    if isinstance(value, tuple):
        strays += [list(value), list(value), value + (0,), (value,), value[:-1]]
    return source.choice(strays)
