"""Live bases: facts that are given and what a program leads to from them, kept as both change."""

from leadalike.errors import AlreadyThere, Full, LimitExceeded, NotThere, NothingDone, Refused, Unkept
from leadalike.facts import is_fact, is_in_range, is_tuple
from leadalike.mends import is_wish, keeps
from leadalike.programs import MOST_RULES, is_rule, require_program
from leadalike.reasons import facts_behind, reason_from
from leadalike.spreading import Spread, leads, plans_of
from leadalike.trimming import trimmed

MOST_GIVEN = 60
MOST_GUARDS = 3
MOST_DEEDS_AT_ONCE = 200
WORDS = ("tell", "forget", "put", "drop", "trim", "guard", "unguard")


class Base:
    """A program, given facts and guarded wishes, with the facts that hold and all deeds that can be taken back."""

    def __init__(self, program, *, tries=300):
        self._tries = tries
        self._deeds = []
        # For each deed what was before it.
        self._past = []
        self._become(require_program(program), (), ())

    def __len__(self):
        """Return the number of facts that hold."""
        return len(self._facts)

    def __contains__(self, x):
        """Return whether x, whatever it is, is a fact that holds."""
        return is_fact(self._program[0], x) and x in self._spread.ranks

    def __eq__(self, other):
        """Return whether other is a live base with the same program, given facts and guards."""
        return (
            isinstance(other, Base) and self._program == other._program
            and self._given == other._given and self._guards == other._guards
        )

    def __iadd__(self, other):
        """Do all of these deeds, or none of them if one is refused."""
        if not is_tuple(other, 0, MOST_DEEDS_AT_ONCE) or not all([is_deed(value) for value in other]):
            raise Refused(-1, None)
        count = len(self._deeds)
        for index, deed in enumerate(other):
            reason = refusal(self, deed)
            if reason is not None:
                self.back_to(count)
                raise Refused(index, reason)
        return self

    def _become(self, program, given, guards):
        """Take over the program, the given facts and the guards."""
        self._program = program
        self._given = given
        self._guards = guards
        self._spread = Spread(plans_of(program), given)
        self._has_gone_on = False
        self._settle()

    def _settle(self):
        """Find all facts that hold."""
        self._spread.settle()
        self._facts = tuple(sorted(self._spread.ranks))

    def _entries(self):
        """Return a dict of what holds without being given and of the entries that lead to it."""
        if self._has_gone_on:
            # Begun anew, so that bases with the same program and given facts tell the same reasons.
            self._become(self._program, self._given, self._guards)
        return self._spread.entries

    def _note(self, deed):
        """Add a deed that is about to be done."""
        self._deeds.append(deed)
        self._past.append((self._program, self._given, self._guards))

    def _do(self, deed, program, given):
        """Do the deed by which the program and the given facts become these; return what comes and goes."""
        before = self._facts
        self._note(deed)
        self._become(program, given, self._guards)
        return (added(before, self._facts), added(self._facts, before))

    def _require_kept(self, program):
        """Raise Unkept for the first guard that the program does not keep."""
        for index, wish in enumerate(self._guards):
            if not keeps(program, wish, tries=self._tries):
                raise Unkept(index)

    def tell(self, fact):
        """Give the fact; return what comes and goes."""
        if not is_fact(self._program[0], fact):
            raise NotThere()
        if fact in self._given:
            raise AlreadyThere()
        if len(self._given) >= MOST_GIVEN:
            raise Full()
        before = self._facts
        self._note(("tell", fact))
        self._given = tuple(sorted([*self._given, fact]))
        # What holds goes on holding, so that there is no need to begin anew.
        self._has_gone_on = True
        if fact not in self:
            self._spread.give(fact)
            self._settle()
        return (added(before, self._facts), ())

    def forget(self, fact):
        """Take the given fact away; return what comes and goes."""
        if not is_fact(self._program[0], fact) or fact not in self._given:
            raise NotThere()
        return self._do(("forget", fact), self._program, without(self._given, fact))

    def put(self, rule):
        """Add the rule; return what comes and goes."""
        kinds, rules = self._program
        if not is_rule(kinds, rule):
            raise NotThere()
        if rule in rules:
            raise AlreadyThere()
        if len(rules) >= MOST_RULES:
            raise Full()
        changed = (kinds, tuple(sorted([*rules, rule])))
        self._require_kept(changed)
        return self._do(("put", rule), changed, self._given)

    def drop(self, rule):
        """Remove the rule; return what comes and goes."""
        kinds, rules = self._program
        if not is_rule(kinds, rule) or rule not in rules:
            raise NotThere()
        changed = (kinds, without(rules, rule))
        self._require_kept(changed)
        return self._do(("drop", rule), changed, self._given)

    def trim(self):
        """Make the program its trimmed program, which leads to the same; return what comes and goes."""
        return self._do(("trim", None), trimmed(self._program, tries=self._tries), self._given)

    def guard(self, wish):
        """Guard the wish, which the program has to keep; return what comes and goes."""
        if not is_wish(self._program[0], wish):
            raise NotThere()
        if wish in self._guards:
            raise AlreadyThere()
        if len(self._guards) >= MOST_GUARDS:
            raise Full()
        if not keeps(self._program, wish, tries=self._tries):
            raise Unkept(len(self._guards))
        self._note(("guard", wish))
        self._guards = (*self._guards, wish)
        return ((), ())

    def unguard(self, wish):
        """Guard the wish no longer; return what comes and goes."""
        if not is_wish(self._program[0], wish) or wish not in self._guards:
            raise NotThere()
        self._note(("unguard", wish))
        self._guards = without(self._guards, wish)
        return ((), ())

    def program(self):
        """Return the program."""
        return self._program

    def given(self):
        """Return the given facts."""
        return self._given

    def guards(self):
        """Return the guards in the order in which they were guarded."""
        return self._guards

    def facts(self):
        """Return the facts that hold."""
        return self._facts

    def deeds(self):
        """Return the tuple of all deeds."""
        return tuple(self._deeds)

    def why(self, fact):
        """Return a reason for the fact from the given facts."""
        if fact not in self:
            raise NotThere()
        return reason_from(self._program, self._entries(), fact)

    def only_by(self, fact):
        """Return the given facts without each of which alone the fact would not hold."""
        if fact not in self:
            raise NotThere()
        # Without a fact that is not behind the reason that is known the reason still stands.
        behind = facts_behind(self._program, self._entries(), fact)
        plans = plans_of(self._program)
        asked = [given for given in self._given if given in behind]
        return tuple([given for given in asked if not leads(plans, without(self._given, given), fact)])

    def undo(self):
        """Take the last deed back."""
        # Without deeds no count of them is one less.
        self.back_to(len(self._deeds) - 1)

    def back_to(self, count):
        """Take deeds back, the last one first, until count are left."""
        if not is_in_range(count, 0, len(self._deeds)):
            raise NothingDone()
        if count < len(self._deeds):
            program, given, guards = self._past[count]
            self._deeds = self._deeds[:count]
            self._past = self._past[:count]
            self._become(program, given, guards)

    def twin(self):
        """Return another live base that is as this one is."""
        other = Base(self._program, tries=self._tries)
        other._deeds = list(self._deeds)
        other._past = list(self._past)
        other._become(self._program, self._given, self._guards)
        return other


def added(before, after):
    """Return the set of the facts that are among those after, but not among those before."""
    return tuple(sorted(set(after) - set(before)))


def without(parts, part):
    """Return the tuple of all other parts."""
    return tuple([each for each in parts if each != part])


def is_deed(value):
    """Return whether value is a pair that begins with one of the seven words, as a deed does."""
    if not is_tuple(value, 2, 2):
        return False
    word, part = value
    return word in WORDS and (word != "trim" or part is None)


def refusal(base, deed):
    """Do the deed; return None, or the name of the class of the error by which it is refused."""
    try:
        do(base, deed)
    except NotThere:
        return "NotThere"
    except AlreadyThere:
        return "AlreadyThere"
    except Full:
        return "Full"
    except Unkept:
        return "Unkept"
    except LimitExceeded:
        return "LimitExceeded"
    return None


def do(base, deed):
    """Do the deed."""
    word, part = deed
    if word == "tell":
        base.tell(part)
    elif word == "forget":
        base.forget(part)
    elif word == "put":
        base.put(part)
    elif word == "drop":
        base.drop(part)
    elif word == "trim":
        base.trim()
    elif word == "guard":
        base.guard(part)
    else:
        base.unguard(part)
