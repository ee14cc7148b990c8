import random
import unittest

from leadalike.bases import Base
from leadalike.errors import (
    AlreadyThere, Full, InvalidProgram, LimitExceeded, NotThere, NothingDone, Refused, Unkept,
)
from leadalike.programs import require_program
from leadalike.reasons import is_reason
from leadalike.trimming import trimmed
from tests.plain_base import PlainBase, Refusal
from tests.plainly import plain_fact, plain_rounds
from tests.randomly import altered, draw_atom, draw_kinds, draw_program, draw_rule, draw_wish
from tests.samples import STRAYS, WITH_300_WAYS, WITH_301_WAYS, answer_leaving_arguments, nested_in_lists

ONE = ((1, (-1,)), ((0, (-1,)),), ())
TWO = ((2, (-1,)), ((1, (-1,)),), ())
SHORT = ((2, (-1,)), ((0, (-1,)),), ())
FLAG = ((2, (3,)), (), ())
KINDS = (1, 1, 1)
CHAIN = (KINDS, (ONE, TWO))
ZERO = (0, (5,))
LEADS = ("leads", ((0, (9,)),), (1, (9,)))
SPARES = ("spares", ((0, (9,)),), (0, (8,)))
OVER = ("over", (KINDS, (ONE,)))
PATHS = ((2,), (((0, (-1, -3)), ((0, (-1, -2)), (0, (-2, -3))), ()),))
FOUR = ((2, ()), ((0, (-1, -2)), (0, (-3, -4))), ())
DEEDS = ("tell", "forget", "put", "drop", "guard", "unguard")
METHODS = (
    "__init__", "__len__", "__contains__", "__eq__", "__iadd__", "tell", "forget", "put", "drop", "trim", "guard",
    "unguard", "program", "given", "guards", "facts", "deeds", "why", "only_by", "undo", "back_to", "twin",
)


def seen(base):
    """All that the base tells of itself."""
    return (base.program(), base.given(), base.guards(), base.facts(), base.deeds())


class Bases(unittest.TestCase):
    def assert_does(self, expected, base, word, *parts):
        with self.subTest(word=word, parts=parts):
            before = base.deeds()
            self.assertEqual(repr(getattr(base, word)(*parts)), repr(expected))
            self.assertEqual(base.deeds(), before + ((word, parts[0] if parts else None),))

    def assert_raises(self, kind, base, word, *parts):
        """The call raises and changes nothing; returns the error."""
        with self.subTest(word=word, parts=repr(parts)[:200]):
            before = repr((seen(base), [base.why(fact) for fact in base.facts()]))
            error = answer_leaving_arguments(self, getattr(base, word), *parts)
            self.assertIs(error.__class__, kind)
            self.assertEqual(repr((seen(base), [base.why(fact) for fact in base.facts()])), before)
            return error

    def assert_seen(self, base, program, given, guards=(), deeds=None):
        self.assertEqual(repr(base.program()), repr(program))
        self.assertEqual(repr(base.given()), repr(given))
        self.assertEqual(repr(base.guards()), repr(guards))
        self.assertEqual(repr(base.facts()), repr(plain_rounds(program, given)[-1]))
        self.assertEqual(len(base), len(base.facts()))
        if deeds is not None:
            self.assertEqual(repr(base.deeds()), repr(deeds))


class Example(Bases):
    def test_the_answers_of_the_document(self):
        base = Base(((1, 1), (((1, (-1,)), ((0, (-1,)),), ()),)))
        held = base.guard(("leads", ((0, (3,)),), (1, (3,))))
        come, gone = base.tell((0, (5,)))
        self.assertEqual(held, ((), ()))
        self.assertEqual(
            (come, gone, (1, (5,)) in base, base.only_by((1, (5,))), len(base)),
            (((0, (5,)), (1, (5,))), (), True, ((0, (5,)),), 2),
        )

    def test_the_class_and_its_methods_are_defined_in_their_place(self):
        self.assertEqual(Base.__module__, "leadalike.bases")
        for name in METHODS:
            self.assertIn(name, vars(Base))

    def test_arguments_by_name(self):
        base = Base(tries=5, program=CHAIN)
        base.tell(fact=ZERO)
        base.guard(wish=LEADS)
        base.put(rule=SHORT)
        base.drop(rule=SHORT)
        self.assertEqual(base.why(fact=(1, (5,))), ((0, (5,)),))
        self.assertEqual(base.only_by(fact=(1, (5,))), (ZERO,))
        base.unguard(wish=LEADS)
        base.forget(fact=ZERO)
        base.back_to(count=0)
        self.assertEqual(base, Base(CHAIN))
        self.assertRaises(TypeError, Base, CHAIN, 300)


class New(Bases):
    def test_what_a_new_base_has(self):
        for program in (CHAIN, ((0,), ()), (KINDS, (ONE, FLAG)), ((0,), (((0, ()), (), ()),))):
            self.assert_seen(Base(require_program(program)), program, (), (), ())

    def test_any_value(self):
        for wrong, part in (
            (None, None), ((), None), ([*CHAIN], None), ((KINDS,), None), ((KINDS, (ONE,), ()), None), ("ab", None),
            (((3,), ()), "kinds"), ((KINDS, [ONE]), "rules"), ((KINDS, (ONE,) * 7), "rules"), ((KINDS, (ONE, ONE)), 1),
            ((KINDS, (TWO, ONE)), 1), ((KINDS, ((True,),)), 0), (((True,), ()), "kinds"), (nested_in_lists(40), None),
        ):
            with self.assertRaises(InvalidProgram) as caught:
                Base(wrong)
            self.assertEqual(caught.exception.part, part)
            self.assertRaises(InvalidProgram, Base, wrong, tries=1)


class Facts(Bases):
    def test_tell_and_forget(self):
        base = Base(CHAIN)
        other = (1, (5,))
        self.assert_does(((ZERO, other, (2, (5,))), ()), base, "tell", ZERO)
        self.assert_does(((), ()), base, "tell", other)
        self.assert_seen(base, CHAIN, (ZERO, other))
        self.assert_does(((), (ZERO,)), base, "forget", ZERO)
        self.assert_does(((ZERO,), ()), base, "tell", ZERO)
        self.assert_does(((), ()), base, "forget", other)
        self.assert_does(((), (ZERO, other, (2, (5,)))), base, "forget", ZERO)
        self.assert_seen(base, CHAIN, ())
        self.assertEqual(len(base.deeds()), 6)

    def test_given_facts_are_a_set(self):
        base = Base(CHAIN)
        facts = [(2, (1,)), (0, (29,)), (0, (3,)), (1, (0,))]
        for fact in facts:
            base.tell(fact)
        self.assertEqual(base.given(), tuple(sorted(facts)))

    def test_what_is_no_fact(self):
        base = Base(CHAIN)
        base.tell(ZERO)
        for wrong in STRAYS + (
            (), [*ZERO], (0, [5]), (0, (30,)), (0, (-1,)), (0, (True,)), (True, (5,)), (False, (5,)), (3, (5,)),
            (-1, (5,)),
            (0, (5, 5)), (0, ()), (0, 5), (0, (5,), ()), ((0, (5,)),), {0: (5,)}, "ab", ONE, LEADS,
        ):
            for word in ("tell", "forget", "why", "only_by"):
                self.assert_raises(NotThere, base, word, wrong)
            self.assertIs(wrong in base, False)
        self.assertIs(ZERO in base, True)

    def test_already_there_and_not_there(self):
        base = Base(CHAIN)
        base.tell(ZERO)
        self.assert_raises(AlreadyThere, base, "tell", ZERO)
        # A fact that holds without being given may be told, but not be forgotten.
        self.assert_raises(NotThere, base, "forget", (1, (5,)))
        self.assert_raises(NotThere, base, "forget", (0, (6,)))
        base.tell((1, (5,)))
        self.assert_raises(AlreadyThere, base, "tell", (1, (5,)))

    def test_sixty_given_facts(self):
        base = Base(PATHS)
        many = [(0, (one, two)) for one in (3, 0) for two in range(30)]
        for fact in many:
            base.tell(fact)
        self.assertEqual(len(base.given()), 60)
        self.assert_raises(Full, base, "tell", (0, (7, 7)))
        self.assert_raises(AlreadyThere, base, "tell", many[0])
        self.assert_raises(NotThere, base, "tell", (0, (7, 30)))
        base.forget(many[5])
        base.tell((0, (7, 7)))
        self.assert_raises(Full, base, "tell", many[5])

    def test_in_and_len(self):
        base = Base(CHAIN)
        base.tell(ZERO)
        for fact in base.facts():
            self.assertIs(fact in base, True)
        for value in ((0, (6,)), (3, (5,)), None, base, [], {}, (0, [5]), (0, (True,)), Base):
            self.assertIs(value in base, False)
        base.tell((0, (1,)))
        self.assertIs((0, (True,)) in base, False)
        self.assertIs((True, (1,)) in base, False)
        self.assertEqual((len(base), len(Base(CHAIN))), (6, 0))


class Why(Bases):
    def assert_reasons(self, base):
        program, given = base.program(), base.given()
        for fact in base.facts():
            reason = base.why(fact)
            self.assertTrue(is_reason(program, given, fact, reason))
            self.assertEqual(reason == (), fact in given)
            heads = [plain_fact(program[1][index], program[1][index][0], values) for index, values in reason]
            self.assertEqual(len(heads), len(set(heads)))

    def test_a_chain(self):
        base = Base(CHAIN)
        base.tell(ZERO)
        self.assertEqual(base.why(ZERO), ())
        self.assertEqual(base.why((1, (5,))), ((0, (5,)),))
        self.assertEqual(base.why((2, (5,))), ((0, (5,)), (1, (5,))))
        base.tell((1, (5,)))
        self.assertEqual(base.why((2, (5,))), ((1, (5,)),))
        self.assertEqual(base.why((1, (5,))), ())
        base.forget((1, (5,)))
        self.assertEqual(base.why((2, (5,))), ((0, (5,)), (1, (5,))))
        self.assert_raises(NotThere, base, "why", (2, (6,)))

    def test_indices_change_with_the_rules(self):
        base = Base((KINDS, (TWO,)))
        base.tell((1, (5,)))
        self.assertEqual(base.why((2, (5,))), ((0, (5,)),))
        base.put(ONE)
        self.assertEqual(base.why((2, (5,))), ((1, (5,)),))
        base.drop(ONE)
        self.assertEqual(base.why((2, (5,))), ((0, (5,)),))

    def test_one_by_one_in_any_order(self):
        source = random.Random(80)
        steps = [(0, (thing, thing + 1)) for thing in range(7)] + [(0, (7, 0)), (0, (2, 2))]
        for _ in range(6):
            base = Base(PATHS)
            source.shuffle(steps)
            for fact in steps:
                base.tell(fact)
                if source.random() < 0.5:
                    self.assert_reasons(base)
            self.assert_reasons(base)
            self.assert_seen(base, PATHS, tuple(sorted(steps)))
            for fact in steps[:3]:
                base.forget(fact)
                self.assert_reasons(base)

    def test_reasons_do_not_depend_on_the_deeds(self):
        # Each of two facts in the middle makes a way from 1 to 3.
        one, other = Base(PATHS), Base(PATHS)
        for base, middles in ((one, (4, 2)), (other, (2, 4))):
            for middle in middles:
                base += (("tell", (0, (1, middle))), ("tell", (0, (middle, 3))))
        self.assertEqual([one.why(fact) for fact in one.facts()], [other.why(fact) for fact in other.facts()])
        one.tell((0, (7, 1)))
        before = [one.twin().why(fact) for fact in one.facts()]
        self.assertEqual([one.why(fact) for fact in one.facts()], before)
        one.tell((0, (6, 7)))
        one.undo()
        self.assertEqual([one.why(fact) for fact in one.facts()], before)

    def test_only_by(self):
        base = Base(PATHS)
        for fact in ((0, (1, 2)), (0, (2, 3)), (0, (3, 4)), (0, (1, 3))):
            base.tell(fact)
        self.assertEqual(base.only_by((0, (1, 2))), ((0, (1, 2)),))
        # The fact (1, 3) is given, and led to by others.
        self.assertEqual(base.only_by((0, (1, 3))), ())
        self.assertEqual(base.only_by((0, (2, 4))), ((0, (2, 3)), (0, (3, 4))))
        self.assertEqual(base.only_by((0, (1, 4))), ((0, (3, 4)),))
        self.assert_raises(NotThere, base, "only_by", (0, (4, 1)))
        flag = Base((KINDS, (FLAG,)))
        self.assertEqual(flag.only_by((2, (3,))), ())
        flag.tell((2, (3,)))
        self.assertEqual(flag.only_by((2, (3,))), ())


class Rules(Bases):
    def test_put_and_drop(self):
        base = Base((KINDS, ()))
        base.tell(ZERO)
        self.assert_does((((1, (5,)),), ()), base, "put", ONE)
        self.assert_does((((2, (5,)),), ()), base, "put", TWO)
        self.assert_does(((), ()), base, "put", SHORT)
        self.assert_does((((2, (3,)),), ()), base, "put", FLAG)
        self.assert_seen(base, (KINDS, tuple(sorted((ONE, TWO, SHORT, FLAG)))), (ZERO,))
        self.assert_does(((), ()), base, "drop", TWO)
        self.assert_does(((), ((1, (5,)),)), base, "drop", ONE)
        self.assert_does(((), ((2, (5,)),)), base, "drop", SHORT)
        self.assert_does(((), ((2, (3,)),)), base, "drop", FLAG)
        self.assert_seen(base, (KINDS, ()), (ZERO,))

    def test_what_is_no_rule(self):
        base = Base(CHAIN)
        for wrong in STRAYS + (
            (), [*ONE], ONE[:2], ((1, (-1,)), (), ()), ((1, (-1, -1)), ((0, (-1,)),), ()), ((3, ()), (), ()),
            ((1, (True,)), (), ()), ((True, (-1,)), ((0, (-1,)),), ()), ((1, (-1,)), ((False, (-1,)),), ()),
            ((1, (-1,)), [(0, (-1,))], ()), ZERO, CHAIN, (ONE,), LEADS,
        ):
            self.assert_raises(NotThere, base, "put", wrong)
            self.assert_raises(NotThere, base, "drop", wrong)
        self.assert_raises(AlreadyThere, base, "put", ONE)
        self.assert_raises(NotThere, base, "drop", SHORT)

    def test_six_rules(self):
        rules = tuple(((1, (thing,)), (), ()) for thing in range(6))
        base = Base((KINDS, rules))
        self.assert_raises(Full, base, "put", ONE)
        self.assert_raises(AlreadyThere, base, "put", rules[3])
        self.assert_raises(NotThere, base, "put", None)
        base.drop(rules[0])
        base.put(ONE)
        self.assert_raises(Full, base, "put", rules[0])

    def test_room_comes_before_the_guards(self):
        rules = tuple(((1, (thing,)), (), ()) for thing in range(6))
        base = Base((KINDS, rules))
        base.guard(("spares", ((0, (9,)),), (1, (9,))))
        self.assert_raises(Full, base, "put", ONE)
        base.drop(rules[0])
        self.assertEqual(self.assert_raises(Unkept, base, "put", ONE).index, 0)

    def test_trim(self):
        long = ((2, (-1,)), ((0, (-1,)), (1, (-1,))), ())
        base = Base((KINDS, tuple(sorted((ONE, TWO, long)))))
        base.tell(ZERO)
        other = base.twin()
        self.assert_does(((), ()), base, "trim")
        less = trimmed((KINDS, tuple(sorted((ONE, TWO, long)))))
        self.assert_seen(base, less, (ZERO,), (), (("tell", ZERO), ("trim", None)))
        self.assertLess(len(less[1]), 3)
        for fact in ((1, (7,)), (0, (9,))):
            self.assertEqual(base.tell(fact), other.tell(fact))
        self.assertEqual(base.forget(ZERO), other.forget(ZERO))
        self.assertEqual(base.facts(), other.facts())
        self.assertTrue(is_reason(less, base.given(), (2, (7,)), base.why((2, (7,)))))
        # There is nothing to trim any more.
        self.assert_does(((), ()), base, "trim")
        self.assertEqual(base.program(), less)
        base.back_to(1)
        self.assertEqual(base.program(), (KINDS, tuple(sorted((ONE, TWO, long)))))


class Guards(Bases):
    def test_guard_and_unguard(self):
        base = Base(CHAIN)
        for wish in (LEADS, OVER, SPARES):
            self.assert_does(((), ()), base, "guard", wish)
        self.assertEqual(base.guards(), (LEADS, OVER, SPARES))
        self.assert_does(((), ()), base, "unguard", OVER)
        self.assertEqual(base.guards(), (LEADS, SPARES))
        self.assert_does(((), ()), base, "guard", OVER)
        self.assertEqual(base.guards(), (LEADS, SPARES, OVER))
        self.assert_raises(NotThere, base, "unguard", ("over", CHAIN))
        for wish in (SPARES, LEADS, OVER):
            self.assert_does(((), ()), base, "unguard", wish)
        self.assertEqual(base.guards(), ())

    def test_what_is_no_wish(self):
        base = Base(CHAIN)
        for wrong in STRAYS + (
            (), [*LEADS], LEADS[:2], ("leads", (ZERO, ZERO), ZERO), ("leads", [ZERO], ZERO), ("within", CHAIN, CHAIN),
            ("within", ((1, 1), ())), ("over", [*CHAIN]), ("over", ((1, True, 1), ())), ("leads", (), (0, (True,))),
            ("tell", ZERO), (None, CHAIN), (["within"], CHAIN), ONE, ("guard", LEADS),
        ):
            self.assert_raises(NotThere, base, "guard", wrong)
            self.assert_raises(NotThere, base, "unguard", wrong)
        base.guard(LEADS)
        self.assert_raises(NotThere, base, "unguard", [*LEADS])
        # Python finds these equal.
        base.guard(("leads", ((0, (1,)),), (1, (1,))))
        for wrong in (((0, (True,)),), (1, (1,))), (((0, (1,)),), (True, (1,))), (((False, (1,)),), (1, (True,))):
            self.assert_raises(NotThere, base, "unguard", ("leads", *wrong))
            self.assert_raises(NotThere, base, "guard", ("leads", *wrong))

    def test_the_order_of_errors(self):
        base = Base(CHAIN)
        no = ("leads", (), ZERO)
        self.assertEqual(self.assert_raises(Unkept, base, "guard", no).index, 0)
        base.guard(LEADS)
        self.assert_raises(AlreadyThere, base, "guard", LEADS)
        self.assertEqual(self.assert_raises(Unkept, base, "guard", no).index, 1)
        base.guard(OVER)
        self.assertEqual(self.assert_raises(Unkept, base, "guard", no).index, 2)
        base.guard(SPARES)
        self.assert_raises(Full, base, "guard", no)
        self.assert_raises(Full, base, "guard", ("within", CHAIN))
        self.assert_raises(AlreadyThere, base, "guard", OVER)
        self.assert_raises(NotThere, base, "guard", None)

    def test_changes_by_which_a_guarded_wish_would_not_be_kept(self):
        base = Base(CHAIN)
        base.guard(SPARES)
        base.guard(LEADS)
        base.guard(("within", CHAIN))
        self.assertEqual(self.assert_raises(Unkept, base, "drop", ONE).index, 1)
        self.assert_does(((), ()), base, "drop", TWO)
        self.assertEqual(self.assert_raises(Unkept, base, "put", FLAG).index, 2)
        self.assert_does(((), ()), base, "put", SHORT)
        rule = ((0, (8,)), ((0, (-1,)),), ())
        self.assertEqual(self.assert_raises(Unkept, base, "put", rule).index, 0)
        base.unguard(SPARES)
        self.assertEqual(self.assert_raises(Unkept, base, "put", rule).index, 1)
        base.unguard(("within", CHAIN))
        self.assert_does(((), ()), base, "put", rule)

    def test_what_the_given_facts_are_does_not_matter(self):
        base = Base(CHAIN)
        base.guard(("leads", (ZERO,), (1, (5,))))
        base.tell((1, (5,)))
        self.assertEqual(self.assert_raises(Unkept, base, "drop", ONE).index, 0)


class Limits(Bases):
    def test_tries_of_a_base(self):
        # The rule has three variables and five ways.
        for tries, fits in ((4, False), (5, True)):
            base = Base(PATHS, tries=tries)
            for word, parts in (("guard", (("within", PATHS),)), ("guard", (("over", PATHS),)), ("trim", ())):
                if fits:
                    self.assert_does(((), ()), base, word, *parts)
                else:
                    self.assertEqual(self.assert_raises(LimitExceeded, base, word, *parts).limit, 4)

    def test_put_and_drop(self):
        kinds = (2, 1, 0)
        small = ((2, ()), ((1, (-1,)),), ())
        base = Base((kinds, (small,)), tries=10)
        base.guard(("within", (kinds, (small, FOUR)[::-1])))
        self.assertEqual(self.assert_raises(LimitExceeded, base, "put", FOUR).limit, 10)
        # A guard before it that would not be kept is told first.
        other = Base((kinds, (small,)), tries=10)
        other.guard(("spares", ((0, (1, 2)),), (2, ())))
        other.guard(("within", (kinds, (FOUR, small))))
        self.assertEqual(self.assert_raises(Unkept, other, "put", FOUR).index, 0)
        third = Base((kinds, (FOUR, small)), tries=20)
        third.guard(("over", (kinds, (FOUR, small))))
        self.assertEqual(self.assert_raises(Unkept, third, "drop", small).index, 0)
        known = ((1, (4,)), (), ())
        self.assertEqual(self.assert_raises(LimitExceeded, third, "put", known).limit, 20)
        third.unguard(("over", (kinds, (FOUR, small))))
        self.assert_does((((1, (4,)), (2, ())), ()), third, "put", known)

    def test_three_hundred_by_default(self):
        for program, fits in ((WITH_300_WAYS, True), (WITH_301_WAYS, False)):
            base = Base(program)
            if fits:
                self.assert_does(((), ()), base, "guard", ("within", program))
            else:
                self.assertEqual(self.assert_raises(LimitExceeded, base, "guard", ("within", program)).limit, 300)

    def test_a_twin_has_the_same_tries(self):
        base = Base(PATHS, tries=4).twin()
        self.assertEqual(self.assert_raises(LimitExceeded, base, "trim").limit, 4)


class Undo(Bases):
    def test_each_deed(self):
        base = Base(CHAIN)
        states = [seen(base)]
        for word, *parts in (
            ("tell", ZERO), ("guard", LEADS), ("put", SHORT), ("tell", (1, (5,))), ("trim",), ("forget", ZERO),
            ("guard", OVER), ("unguard", LEADS), ("tell", (2, (8,))), ("put", FLAG), ("drop", FLAG),
        ):
            getattr(base, word)(*parts)
            states.append(seen(base))
        for count in range(len(states) - 2, -1, -1):
            self.assertIsNone(base.undo())
            self.assertEqual(seen(base), states[count])
            self.assertEqual(len(base), len(base.facts()))
        self.assert_raises(NothingDone, base, "undo")
        base.tell(ZERO)
        base.undo()
        self.assertEqual(seen(base), states[0])

    def test_back_to(self):
        base = Base(CHAIN)
        states = [seen(base)]
        for thing in range(6):
            base.tell((0, (thing,)))
            states.append(seen(base))
        for count in (6, 4, 4, 1, 0, 0):
            self.assertIsNone(base.back_to(count))
            self.assertEqual(seen(base), states[count])

    def test_what_is_no_number_of_deeds(self):
        base = Base(CHAIN)
        self.assert_raises(NothingDone, base, "back_to", 1)
        base.tell(ZERO)
        base.tell((1, (2,)))
        for wrong in STRAYS + (3, 4, -3, True, False, "0", (0,), [0], 10 ** 50, {}):
            if wrong not in (0, 1) or isinstance(wrong, bool):
                self.assert_raises(NothingDone, base, "back_to", wrong)

    def test_errors_are_no_deeds(self):
        base = Base(CHAIN)
        base.tell(ZERO)
        self.assert_raises(AlreadyThere, base, "tell", ZERO)
        base.undo()
        self.assert_seen(base, CHAIN, (), (), ())

    def test_five_hundred_deeds(self):
        base = Base(PATHS)
        for thing in range(29):
            base.tell((0, (thing, thing + 1)))
        for _ in range(235):
            base.forget((0, (14, 15)))
            base.tell((0, (14, 15)))
        base.trim()
        self.assertEqual((len(base.deeds()), len(base)), (500, 435))
        base.back_to(30)
        self.assertEqual(len(base), 210)
        base.back_to(0)
        self.assert_seen(base, PATHS, (), (), ())


class Twins(Bases):
    def test_a_twin_is_as_the_base_and_on_its_own(self):
        base = Base(CHAIN)
        base.tell(ZERO)
        base.guard(LEADS)
        other = base.twin()
        self.assertIsNot(other, base)
        self.assertIs(other.__class__, Base)
        self.assertEqual(other, base)
        self.assertEqual(seen(other), seen(base))
        before = seen(base)
        other.tell((0, (6,)))
        other.put(SHORT)
        other.unguard(LEADS)
        self.assertEqual(seen(base), before)
        self.assertNotEqual(other, base)
        other.back_to(0)
        self.assertEqual(seen(base), before)
        self.assert_seen(other, CHAIN, (), (), ())
        base.undo()
        base.undo()
        self.assertEqual(base, other)

    def test_the_base_goes_on_without_its_twin(self):
        base = Base(CHAIN)
        base.tell(ZERO)
        other = base.twin()
        before = seen(other)
        base.tell((0, (7,)))
        base.forget(ZERO)
        base.trim()
        base.back_to(0)
        self.assertEqual(seen(other), before)
        self.assertEqual(other.why((2, (5,))), ((0, (5,)), (1, (5,))))
        other.undo()
        self.assertEqual(other, base)


class Equal(Bases):
    def test_equal_bases(self):
        one, other = Base(CHAIN), Base(CHAIN, tries=5)
        self.assertIs(one == other, True)
        self.assertIs(one != other, False)
        one.tell(ZERO)
        self.assertIs(one == other, False)
        self.assertIs(one != other, True)
        # The deeds may differ.
        other.tell((1, (5,)))
        other.tell(ZERO)
        other.forget((1, (5,)))
        self.assertIs(one == other, True)
        one.put(SHORT)
        self.assertIs(one == other, False)
        other.put(SHORT)
        one.guard(LEADS)
        self.assertIs(one == other, False)
        other.guard(LEADS)
        self.assertIs(one == other, True)

    def test_the_order_of_the_guards_counts(self):
        one, other = Base(CHAIN), Base(CHAIN)
        for base, wishes in ((one, (LEADS, OVER)), (other, (OVER, LEADS))):
            for wish in wishes:
                base.guard(wish)
        self.assertIs(one == other, False)

    def test_programs_that_hold_the_same_facts_may_be_unequal(self):
        self.assertIs(Base(CHAIN) == Base((KINDS, (ONE,))), False)
        self.assertIs(Base(((1,), ())) == Base(((1, 1), ())), False)

    def test_any_other_value(self):
        base = Base(CHAIN)
        for value in STRAYS + (CHAIN, (), (CHAIN, (), ()), Base):
            self.assertIs(base == value, False)
            self.assertIs(value == base, False)
            self.assertIs(base != value, True)


class AllOrNone(Bases):
    def assert_refused(self, index, reason, base, deeds):
        with self.subTest(deeds=repr(deeds)[:300]):
            before = repr((seen(base), [base.why(fact) for fact in base.facts()]))
            same = base
            with self.assertRaises(Refused) as caught:
                base += deeds
            self.assertEqual(repr((caught.exception.index, caught.exception.reason)), repr((index, reason)))
            self.assertIs(base, same)
            self.assertEqual(repr((seen(base), [base.why(fact) for fact in base.facts()])), before)

    def test_all(self):
        base = same = Base(CHAIN)
        deeds = (
            ("tell", ZERO), ("guard", LEADS), ("put", SHORT), ("trim", None), ("tell", (2, (5,))), ("unguard", LEADS),
            ("drop", TWO), ("forget", ZERO),
        )
        base += deeds
        self.assertIs(base, same)
        self.assertEqual(base.deeds(), deeds)
        other = Base(CHAIN)
        for word, part in deeds:
            getattr(other, word)(*(() if word == "trim" else (part,)))
        self.assertEqual(seen(base), seen(other))
        base.undo()
        self.assertEqual(base.deeds(), deeds[:-1])
        base += ()
        self.assertEqual(base.deeds(), deeds[:-1])
        third = Base(CHAIN)
        third += base.deeds()
        self.assertEqual(seen(third), seen(base))

    def test_what_is_no_tuple_of_deeds(self):
        base = Base(CHAIN)
        base.tell((0, (1,)))
        good = ("tell", ZERO)
        for wrong in STRAYS + ([good], good, (good,) * 201, {good: good}, "tell", (good, None), ([*good],), 200):
            if wrong != ():
                self.assert_refused(-1, None, base, wrong)
        for wrong in STRAYS + (
            (), ("tell",), ("tell", ZERO, ZERO), ["tell", ZERO], ("told", ZERO), ("Tell", ZERO), ("", ZERO),
            (None, ZERO),
            (["tell"], ZERO), (("tell",), ZERO), ("trim", ()), ("trim", False), ("trim", 0), ("trim", ZERO), ("trim",),
            ("undo", None), ("back_to", 0), ("twin", None), (0, None), (True, None),
        ):
            self.assert_refused(-1, None, base, (wrong,))
            # That one deed is refused is told only if all are deeds.
            self.assert_refused(-1, None, base, (good, ("tell", None), wrong))

    def test_two_hundred_deeds(self):
        deeds = (("tell", ZERO), ("forget", ZERO)) * 100
        base = Base(CHAIN)
        base += deeds
        self.assertEqual(base.deeds(), deeds)
        self.assert_refused(-1, None, base, deeds + (("tell", ZERO),))
        self.assert_refused(199, "AlreadyThere", base, deeds[:199] + deeds[:1])

    def test_the_first_deed_that_is_refused(self):
        base = Base(CHAIN)
        base += (("tell", (0, (1,))), ("guard", LEADS))
        good = ("tell", ZERO)
        for deed, reason in (
            (good, "AlreadyThere"), (("tell", None), "NotThere"), (("tell", (0, (True,))), "NotThere"),
            (("forget", (0, (9,))), "NotThere"), (("put", ONE), "AlreadyThere"), (("put", ZERO), "NotThere"),
            (("drop", SHORT), "NotThere"), (("drop", ONE), "Unkept"), (("guard", LEADS), "AlreadyThere"),
            (("guard", ("leads", (), ZERO)), "Unkept"), (("guard", []), "NotThere"), (("unguard", OVER), "NotThere"),
            (("trim", None), None),
        ):
            deeds = (good, ("put", FLAG), deed, ("tell", None))
            self.assert_refused(2 if reason else 3, reason or "NotThere", base, deeds)
        facts = [(2, (thing,)) for thing in range(29)] + [(0, (thing,)) for thing in range(2, 30)]
        many = tuple(("tell", fact) for fact in facts)
        self.assert_refused(59, "Full", base, many + (("tell", (1, (0,))), ("tell", (1, (1,))), ("tell", (1, (2,)))))
        self.assert_refused(2, "Full", base, (("guard", OVER), ("guard", SPARES), ("guard", ("over", CHAIN))))

    def test_the_limit(self):
        base = Base(PATHS, tries=4)
        self.assert_refused(1, "LimitExceeded", base, (("tell", (0, (1, 1))), ("trim", None)))
        self.assert_refused(0, "LimitExceeded", base, (("guard", ("within", base.program())), ("tell", None)))


class AtRandom(Bases):
    def test_histories(self):
        source = random.Random(81)
        outcomes = {}
        for _ in range(60):
            kinds = draw_kinds(source)
            program = draw_program(source, kinds, (0, 1), 2, 4)
            base, plain = Base(program, tries=1000), PlainBase(program)
            for _ in range(25):
                name = self.one_call(source, base, plain)
                outcomes[name] = outcomes.get(name, 0) + 1
                self.assertEqual(repr(seen(base)), repr(plain.seen()))
                self.assert_holds(source, base, plain)
            other = base.twin()
            other.back_to(0)
            self.assertEqual(other, Base(program))
            other += base.deeds()
            self.assertEqual(repr(seen(other)), repr(plain.seen()))
        for name in (*DEEDS, "trim", "undo", "back_to", "twin", "NotThere", "AlreadyThere", "Unkept", "Refused", "all"):
            self.assertIn(name, outcomes)

    def assert_holds(self, source, base, plain):
        """What is told of the facts that hold is so, and each guard is kept."""
        facts = base.facts()
        self.assertEqual(len(base), len(facts))
        for fact in source.sample(facts, min(3, len(facts))):
            self.assertIs(fact in base, True)
            self.assertTrue(is_reason(base.program(), base.given(), fact, base.why(fact)))
            self.assertEqual(base.only_by(fact), plain.only_by(fact))
        for wish in base.guards():
            self.assertEqual(Base(base.program(), tries=1000).guard(wish), ((), ()))

    def draw_deed(self, source, base):
        word = source.choice(DEEDS + ("tell", "tell", "put", "guard", "trim"))
        kinds = base.program()[0]
        if word == "trim":
            return (word, None)
        if word in ("tell", "forget"):
            known = word == "forget" and base.given() and source.random() < 0.8
            return (word, source.choice(base.given()) if known else draw_atom(source, kinds, (0, 1, 2)))
        if word in ("put", "drop"):
            known = word == "drop" and base.program()[1] and source.random() < 0.8
            return (word, source.choice(base.program()[1]) if known else draw_rule(source, kinds, (0, 1), 2))
        known = base.guards() and source.random() < (0.8 if word == "unguard" else 0.1)
        return (word, source.choice(base.guards()) if known else draw_wish(source, base.program()))

    def one_call(self, source, base, plain):
        """One call of both bases; returns a name for what came of it."""
        chance = source.random()
        if chance < 0.08:
            return self.call_back(source, base, plain)
        if chance < 0.12:
            twin = base.twin()
            self.assertEqual((twin, seen(twin)), (base, seen(base)))
            twin.trim()
            return "twin"
        if chance < 0.25:
            deeds = tuple(self.draw_deed(source, base) for _ in range(source.randint(0, 3)))
            return self.call_all(base, plain, deeds)
        word, part = self.draw_deed(source, base)
        if chance < 0.35 and word != "trim":
            part = altered(source, part)
        try:
            expected = plain.do(word, part)
        except Refusal as refusal:
            expected = refusal
        parts = () if word == "trim" else (part,)
        found = answer_leaving_arguments(self, getattr(base, word), *parts)
        if isinstance(expected, Refusal):
            told = (found.__class__.__name__, *vars(found).values())
            self.assertEqual(told, expected.args)
            return expected.args[0]
        self.assertEqual(repr(found), repr(expected))
        return word

    def call_back(self, source, base, plain):
        many = len(plain.deeds)
        if source.random() < 0.5 and many:
            self.assertIsNone(base.undo())
            plain.back_to(many - 1)
            return "undo"
        count = source.randint(max(0, many - 5), many)
        self.assertIsNone(base.back_to(count))
        plain.back_to(count)
        return "back_to"

    def call_all(self, base, plain, deeds):
        try:
            plain.do_all(deeds)
        except Refusal as refusal:
            with self.assertRaises(Refused) as caught:
                base += deeds
            self.assertEqual(("Refused", caught.exception.index, caught.exception.reason), refusal.args)
            return "Refused"
        base += deeds
        return "all"


if __name__ == "__main__":
    unittest.main()
