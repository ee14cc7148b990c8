"""A live base as point 17 of the document tells it, told as plainly and as slowly as can be."""

from leadalike.errors import InvalidProgram
from leadalike.facts import is_fact
from leadalike.mends import require_wishes
from leadalike.errors import InvalidWishes
from leadalike.programs import require_program
from leadalike.trimming import trimmed
from tests.plain_claims import plain_keeps, plain_model


class Refusal(Exception):
    """The name of an error's class, and what it tells."""


def is_rule_of(kinds, value):
    try:
        require_program((kinds, (value,)))
    except InvalidProgram:
        return False
    return True


def is_wish_of(kinds, value):
    try:
        require_wishes(kinds, (value,))
    except InvalidWishes:
        return False
    return True


class PlainBase:
    def __init__(self, program):
        self.kinds = program[0]
        self.states = [(frozenset(program[1]), frozenset(), ())]
        self.deeds = []

    def rules(self):
        return self.states[-1][0]

    def given(self):
        return self.states[-1][1]

    def guards(self):
        return self.states[-1][2]

    def program(self):
        return (self.kinds, tuple(sorted(self.rules())))

    def facts(self):
        return plain_model(self.program(), sorted(self.given()))

    def seen(self):
        """All that a base tells of itself."""
        return (self.program(), tuple(sorted(self.given())), self.guards(), self.facts(), tuple(self.deeds))

    def do(self, word, part):
        """Do a deed and return (come, gone), or raise Refusal with the name of the error and what it tells."""
        before = set(self.facts())
        state = getattr(self, word)(part)
        self.states.append(state)
        self.deeds.append((word, part))
        after = set(self.facts())
        return (tuple(sorted(after - before)), tuple(sorted(before - after)))

    def refuse(self, test, name, *told):
        if test:
            raise Refusal(name, *told)

    def refuse_unkept(self, rules):
        for index, wish in enumerate(self.guards()):
            self.refuse(not plain_keeps((self.kinds, tuple(sorted(rules))), wish), "Unkept", index)

    def tell(self, fact):
        rules, given, guards = self.states[-1]
        self.refuse(not is_fact(self.kinds, fact), "NotThere")
        self.refuse(fact in given, "AlreadyThere")
        self.refuse(len(given) == 60, "Full")
        return (rules, given | {fact}, guards)

    def forget(self, fact):
        rules, given, guards = self.states[-1]
        self.refuse(not is_fact(self.kinds, fact) or fact not in given, "NotThere")
        return (rules, given - {fact}, guards)

    def put(self, rule):
        rules, given, guards = self.states[-1]
        self.refuse(not is_rule_of(self.kinds, rule), "NotThere")
        self.refuse(rule in rules, "AlreadyThere")
        self.refuse(len(rules) == 6, "Full")
        self.refuse_unkept(rules | {rule})
        return (rules | {rule}, given, guards)

    def drop(self, rule):
        rules, given, guards = self.states[-1]
        self.refuse(not is_rule_of(self.kinds, rule) or rule not in rules, "NotThere")
        self.refuse_unkept(rules - {rule})
        return (rules - {rule}, given, guards)

    def trim(self, _):
        _, given, guards = self.states[-1]
        return (frozenset(trimmed(self.program(), tries=1000)[1]), given, guards)

    def guard(self, wish):
        rules, given, guards = self.states[-1]
        self.refuse(not is_wish_of(self.kinds, wish), "NotThere")
        self.refuse(wish in guards, "AlreadyThere")
        self.refuse(len(guards) == 3, "Full")
        self.refuse(not plain_keeps(self.program(), wish), "Unkept", len(guards))
        return (rules, given, (*guards, wish))

    def unguard(self, wish):
        rules, given, guards = self.states[-1]
        self.refuse(not is_wish_of(self.kinds, wish) or wish not in guards, "NotThere")
        return (rules, given, tuple(each for each in guards if each != wish))

    def only_by(self, fact):
        return tuple(
            given for given in sorted(self.given())
            if fact not in plain_model(self.program(), sorted(self.given() - {given}))
        )

    def back_to(self, count):
        self.deeds = self.deeds[:count]
        self.states = self.states[:count + 1]

    def twin(self):
        other = PlainBase(self.program())
        other.states = list(self.states)
        other.deeds = list(self.deeds)
        return other

    def do_all(self, deeds):
        other = self.twin()
        for index, deed in enumerate(deeds):
            try:
                other.do(*deed)
            except Refusal as refusal:
                raise Refusal("Refused", index, refusal.args[0])
        self.states, self.deeds = other.states, other.deeds
