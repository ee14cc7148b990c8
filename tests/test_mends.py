import random
import unittest

from leadalike.comparing import is_within
from leadalike.errors import InvalidOptions, InvalidWishes, LimitExceeded
from leadalike.mends import cheapest_mend, choices, keeps, require_options, require_wishes, with_choice
from leadalike.programs import require_program
from tests.plain_claims import plain_changed, plain_choices, plain_keeps, plain_mend
from tests.randomly import draw_facts, draw_kinds, draw_options, draw_program, draw_wish
from tests.samples import (
    STRAYS, WITH_300_WAYS, WITH_301_WAYS, WRONG_INTEGERS, Answers, answer_leaving_arguments,
)

# Kinds of 2, 1 and 0 things.
KINDS = (2, 1, 0)
FACTS = ((0, (1, 2)), (0, (2, 3)), (1, (4,)), (2, ()))
FACT = (1, (9,))
FRONT = ((1, (-1,)), ((0, (-1, -2)),), ())
BACK = ((1, (-1,)), ((0, (-2, -1)),), ())
FLAG = ((2, ()), ((1, (3,)),), ())
OTHER = (KINDS, (FRONT, FLAG))
PROGRAM = (KINDS, (FRONT,))
WISHES = (
    ("within", OTHER), ("over", OTHER), ("within", (KINDS, ())), ("over", (KINDS, ())), ("leads", FACTS, FACT),
    ("spares", FACTS, FACT), ("leads", (), FACT), ("spares", (), (2, ())), ("leads", FACTS, FACTS[0]),
)
# Sixty facts and one more.
MANY = tuple((0, (one, two)) for one in range(2) for two in range(30))
TOO_MANY = MANY + ((0, (2, 0)),)
WRONG_WISHES = STRAYS + (
    (), ("within",), ("within", OTHER, OTHER), ["within", OTHER], ("within", [*OTHER]), ("within", None),
    ("within", (KINDS, (FLAG, FRONT))), ("within", ((2, 1), ())), ("within", ((2, 1, 0, 0), ())), ("Within", OTHER),
    ("over", ((2, 1, 1), ())), ("over", KINDS), ("over", OTHER, None), ("over ", OTHER), (b"over", OTHER),
    ("within", ((2, True, 0), ())), ("within", ((2, 1, False), ())), ("leads", OTHER), ("spares", OTHER),
    ("within", FACTS, FACT), ("over", FACTS, FACT), ("leads",), ("leads", FACTS), ("leads", FACTS, FACT, FACT),
    ["leads", FACTS, FACT], ("leads", [*FACTS], FACT), ("leads", FACTS[::-1], FACT), ("leads", FACTS[:1] * 2, FACT),
    ("leads", FACTS, [*FACT]), ("leads", FACTS, (1, (30,))), ("leads", FACTS, (1, (True,))), ("leads", FACTS, None),
    ("leads", TOO_MANY, FACT), ("spares", TOO_MANY, FACT), ("spares", FACTS, (2, (1,))), ("spares", FACT, FACTS),
    ("leads", ((True, (3,)),), FACT), ("spares", ((0, (1, False)),), FACT), ("put", FRONT, 3), (None, FACTS, FACT),
    (["leads"], FACTS, FACT), (0, OTHER), (True, OTHER), (("within",), OTHER), ({}, OTHER),
)
OPTIONS = (("put", BACK, 0), ("put", FLAG, 99), ("drop", FRONT, 7))
WRONG_OPTIONS = STRAYS + (
    (), ("put",), ("put", BACK), ("put", BACK, 1, 1), ["put", BACK, 1], ("put", [*BACK], 1), ("put", None, 1),
    ("put", FRONT, 1), ("drop", BACK, 1), ("Put", BACK, 1), ("", BACK, 1), (None, BACK, 1), (["put"], BACK, 1),
    ("put", ((2, (-1,)), (), ()), 1), ("put", ((0, (-1, -1)), ((1, (-2,)),), ()), 1), ("put", BACK, -1),
    ("put", BACK, 100), ("drop", FRONT, 100), ("drop", FRONT, -1), ("put", BACK, True), ("put", BACK, False),
    ("put", BACK, None), ("put", BACK, "1"), ("put", BACK, (1,)), ("put", 1, BACK), (BACK, "put", 1),
    ("drop", ((True, (-1,)), ((0, (-1, -2)),), ()), 1), ("put", ((1, (-1,)), ((False, (-2, -1)),), ()), 1),
    ("drop", [*FRONT], 1), ("within", OTHER), ("put", BACK, 10 ** 50),
)


class Mends(Answers):
    def assert_raises(self, kind, index, call, *arguments):
        with self.subTest(call=call.__name__, arguments=repr(arguments)[:300]):
            error = answer_leaving_arguments(self, call, *arguments)
            self.assertIs(error.__class__, kind)
            self.assertEqual(repr(error.index), repr(index))


class Example(unittest.TestCase):
    def test_the_answers_of_the_document(self):
        rule = ((1, (-1,)), ((0, (-1,)),), ())
        program = ((1, 1), (rule,))
        options = (("drop", rule, 5), ("put", ((1, (3,)), (), ()), 2))
        self.assertEqual(
            (list(choices(program, options)), cheapest_mend(program, (("spares", ((0, (4,)),), (1, (4,))),), options)),
            ([(), (1,), (0,), (0, 1)], (0,)),
        )

    def test_each_function_is_defined_in_its_file(self):
        for call in (require_wishes, keeps, require_options, choices, with_choice, cheapest_mend):
            self.assertEqual(call.__module__, "leadalike.mends")


class RequireWishes(Mends):
    def test_wishes(self):
        for wish in WISHES:
            for value in ((wish,), (wish, WISHES[0]), (wish, wish, wish)):
                self.assertIs(require_wishes(KINDS, value), value)
        for word in ("leads", "spares"):
            value = ((word, MANY, FACT),)
            self.assertIs(require_wishes(KINDS, value), value)

    def test_what_is_no_tuple_of_one_to_three(self):
        for value in (
            None, True, 1, "abc", {}, [WISHES[0]], [*WISHES[:3]], (), WISHES[:4], {0: WISHES[0]}, (None,) * 4,
        ):
            self.assert_raises(InvalidWishes, None, require_wishes, KINDS, value)

    def test_the_first_part_that_is_no_wish(self):
        for wrong in WRONG_WISHES:
            self.assert_raises(InvalidWishes, 0, require_wishes, KINDS, (wrong,))
            self.assert_raises(InvalidWishes, 1, require_wishes, KINDS, (WISHES[4], wrong))
            self.assert_raises(InvalidWishes, 1, require_wishes, KINDS, (WISHES[0], wrong, None))
            self.assert_raises(InvalidWishes, 2, require_wishes, KINDS, (WISHES[0], WISHES[1], wrong))

    def test_other_kinds(self):
        for wish in WISHES:
            for kinds in ((1, 2, 0), (0, 0, 0)):
                if wish[1] and wish != ("spares", (), (2, ())):
                    self.assert_raises(InvalidWishes, 0, require_wishes, kinds, (wish,))
        # Facts may be of these kinds although there are more kinds; a program may not.
        self.assertTrue(require_wishes((2, 1, 0, 1), (("leads", FACTS, FACT),)))
        self.assert_raises(InvalidWishes, 0, require_wishes, (2, 1, 0, 1), (("within", OTHER),))

    def test_arguments_by_name(self):
        self.assertEqual(require_wishes(value=WISHES[:2], kinds=KINDS), WISHES[:2])


class Keeps(Mends):
    def test_within_and_over(self):
        less, more = PROGRAM, OTHER
        for program, other, answers in ((less, more, (True, False)), (more, less, (False, True)), (less, less, (1, 1))):
            self.assert_answer(bool(answers[0]), keeps, program, ("within", other))
            self.assert_answer(bool(answers[1]), keeps, program, ("over", other))

    def test_leads_and_spares(self):
        for facts, fact, leads in (
            (FACTS, (1, (1,)), True), (FACTS, (1, (3,)), False), (FACTS, (0, (2, 3)), True), ((), (2, ()), False),
            (((0, (3, 3)),), (2, ()), True), (((0, (2, 3)),), (2, ()), False), (((1, (3,)),), (2, ()), True),
        ):
            self.assert_answer(leads, keeps, OTHER, ("leads", facts, fact))
            self.assert_answer(not leads, keeps, OTHER, ("spares", facts, fact))
            self.assert_answer(leads, keeps, OTHER, ("leads", facts, fact), tries=1)

    def test_limits_are_those_of_is_within_in_the_order_of_the_wish(self):
        wide = (KINDS, (((2, ()), ((0, (-1, -2)), (0, (-3, -4))), ()),))
        for program, wish in ((wide, ("within", PROGRAM)), (PROGRAM, ("over", wide))):
            self.assert_exceeded(keeps, program, wish, tries=14)
            self.assert_answer(False, keeps, program, wish, tries=15)
        for program, wish in ((PROGRAM, ("within", wide)), (wide, ("over", PROGRAM))):
            self.assert_exceeded(keeps, program, wish, tries=1)
            self.assert_answer(False, keeps, program, wish, tries=2)

    def test_at_random(self):
        source = random.Random(40)
        counts = {}
        for _ in range(400):
            kinds = draw_kinds(source)
            program = draw_program(source, kinds, (0, 1), 2, 3)
            wish = draw_wish(source, program)
            expected = plain_keeps(program, wish)
            counts[wish[0], expected] = counts.get((wish[0], expected), 0) + 1
            self.assert_answer(expected, keeps, program, wish, tries=1000)
        self.assertGreater(min(counts.values()), 10)
        self.assertEqual(len(counts), 8)

    def test_three_hundred_by_default(self):
        for word in ("within", "over"):
            self.assert_answer(True, keeps, WITH_300_WAYS, (word, WITH_300_WAYS))
            self.assert_exceeded(keeps, WITH_301_WAYS, (word, WITH_301_WAYS))
            self.assert_answer(True, keeps, WITH_301_WAYS, (word, WITH_301_WAYS), tries=301)
        wishes = (("over", WITH_301_WAYS),)
        options = (("drop", WITH_301_WAYS[1][0], 0),)
        self.assert_exceeded(cheapest_mend, WITH_301_WAYS, wishes, options)
        self.assert_answer((), cheapest_mend, WITH_301_WAYS, wishes, options, tries=301)

    def test_arguments_by_name(self):
        self.assertIs(keeps(tries=5, wish=("leads", FACTS, (1, (1,))), program=OTHER), True)
        self.assertRaises(TypeError, keeps, OTHER, ("within", OTHER), 300)


class RequireOptions(Mends):
    def test_options(self):
        for value in (OPTIONS, OPTIONS[:1], OPTIONS[::-1], (OPTIONS[0],) * 3, (("put", BACK, 1), ("put", BACK, 0))):
            self.assertIs(require_options(PROGRAM, value), value)

    def test_there_needs_to_be_no_room(self):
        rules = tuple(((1, (thing,)), (), ()) for thing in range(6))
        value = (("put", BACK, 0),)
        self.assertIs(require_options((KINDS, rules), value), value)

    def test_what_is_no_tuple_of_one_to_three(self):
        for value in (None, False, 3, "abc", {}, [OPTIONS[0]], [*OPTIONS], (), OPTIONS + OPTIONS[:1], (None,) * 4):
            self.assert_raises(InvalidOptions, None, require_options, PROGRAM, value)

    def test_the_first_part_that_is_no_option(self):
        for wrong in WRONG_OPTIONS:
            self.assert_raises(InvalidOptions, 0, require_options, PROGRAM, (wrong,))
            self.assert_raises(InvalidOptions, 1, require_options, PROGRAM, (OPTIONS[2], wrong))
            self.assert_raises(InvalidOptions, 1, require_options, PROGRAM, (OPTIONS[0], wrong, None))
            self.assert_raises(InvalidOptions, 2, require_options, PROGRAM, (OPTIONS[0], OPTIONS[0], wrong))

    def test_wrong_costs(self):
        for wrong in WRONG_INTEGERS:
            self.assert_raises(InvalidOptions, 0, require_options, PROGRAM, (("put", BACK, wrong),))

    def test_arguments_by_name(self):
        self.assertEqual(require_options(value=OPTIONS, program=PROGRAM), OPTIONS)


class Choices(Mends):
    def assert_choices(self, expected, program, options):
        require_program(program)
        require_options(program, options)
        with self.subTest(program=program, options=options):
            self.assertEqual(repr(plain_choices(program, options)), repr(expected))
            found = answer_leaving_arguments(self, lambda *told: list(choices(*told)), program, options)
            self.assertEqual(repr(found), repr(expected))

    def test_by_cost(self):
        costs = [(("put", BACK, 3), ("put", FLAG, 2), ("drop", FRONT, 9))]
        self.assert_choices([(), (1,), (0,), (0, 1), (2,), (1, 2), (0, 2), (0, 1, 2)], PROGRAM, *costs)

    def test_of_the_same_cost_as_tuples(self):
        options = (("put", BACK, 0), ("put", FLAG, 0), ("drop", FRONT, 0))
        self.assert_choices([(), (0,), (0, 1), (0, 1, 2), (0, 2), (1,), (1, 2), (2,)], PROGRAM, options)
        options = (("put", BACK, 1), ("put", FLAG, 2), ("drop", FRONT, 3))
        self.assert_choices([(), (0,), (1,), (0, 1), (2,), (0, 2), (1, 2), (0, 1, 2)], PROGRAM, options)

    def test_two_options_for_the_same_rule(self):
        options = (("put", BACK, 5), ("put", BACK, 3), ("drop", FRONT, 1))
        self.assert_choices([(), (2,), (1,), (1, 2), (0,), (0, 2)], PROGRAM, options)
        self.assert_choices([(), (0,), (1,), (2,)], PROGRAM, (("drop", FRONT, 1),) * 3)

    def test_no_room(self):
        rules = tuple(((1, (thing,)), (), ()) for thing in range(6))
        full, five = (KINDS, rules), (KINDS, rules[:5])
        self.assert_choices([()], full, (("put", BACK, 0),))
        self.assert_choices([(), (1,), (0, 1)], full, (("put", BACK, 1), ("drop", rules[2], 0)))
        self.assert_choices([(), (0,), (1,)], five, (("put", BACK, 1), ("put", FLAG, 1)))
        three = (("drop", rules[0], 0), ("put", BACK, 0), ("put", FLAG, 0))
        self.assert_choices([(), (0,), (0, 1), (0, 2)], full, three)
        self.assert_choices([(), (0,), (0, 1), (0, 1, 2), (0, 2), (1,), (2,)], five, three)

    def test_stopping_early(self):
        found = choices(PROGRAM, OPTIONS)
        self.assertEqual(next(found), ())
        self.assertEqual(next(found), (0,))
        self.assertIs(iter(found), found)
        found.close()

    def test_the_changed_program(self):
        for choice, rules in (
            ((), (FRONT,)), ((0,), (FRONT, BACK)), ((1,), (FRONT, FLAG)), ((2,), ()), ((0, 2), (BACK,)),
            ((0, 1), (FRONT, BACK, FLAG)), ((0, 1, 2), (BACK, FLAG)),
        ):
            self.assert_answer((KINDS, tuple(sorted(rules))), with_choice, PROGRAM, OPTIONS, choice)
        # The indices change.
        first = ((0, (1, 1)), (), ())
        self.assert_answer((KINDS, (first, FRONT)), with_choice, PROGRAM, (("put", first, 0),), (0,))

    def test_at_random(self):
        source = random.Random(41)
        for _ in range(200):
            program = draw_program(source, draw_kinds(source), (0, 1), 2)
            options = draw_options(source, program)
            self.assert_choices(plain_choices(program, options), program, options)
            for choice in choices(program, options):
                changed = plain_changed(program, options, choice)
                self.assert_answer(changed, with_choice, program, options, choice)
                require_program(changed)

    def test_arguments_by_name(self):
        self.assertEqual(list(choices(options=OPTIONS[:1], program=PROGRAM)), [(), (0,)])
        self.assertEqual(with_choice(choice=(2,), options=OPTIONS, program=PROGRAM), (KINDS, ()))


class CheapestMend(Mends):
    def test_nothing_to_mend(self):
        self.assert_answer((), cheapest_mend, PROGRAM, (("leads", FACTS, FACTS[0]),), OPTIONS)

    def test_the_first_of_several(self):
        wish = ("leads", (), (2, ()))
        flags = [((2, ()), (), ()), ((2, ()), (), ((1, 2),)), ((2, ()), (), ((1, 3),))]
        for costs, expected in (((3, 2, 1), (2,)), ((1, 1, 1), (0,)), ((2, 1, 1), (1,)), ((0, 0, 0), (0,))):
            options = tuple(("put", rule, cost) for rule, cost in zip(flags, costs))
            self.assert_answer(expected, cheapest_mend, PROGRAM, (wish,), options)

    def test_several_options_together(self):
        wishes = (("leads", ((0, (2, 3)),), (2, ())), ("spares", ((0, (1, 2)),), (1, (1,))))
        options = (("drop", FRONT, 3), ("put", BACK, 4), ("put", FLAG, 5))
        self.assert_answer((0, 1, 2), cheapest_mend, PROGRAM, wishes, options)
        self.assert_answer((1, 2), cheapest_mend, PROGRAM, wishes[:1], options)
        self.assert_answer((0,), cheapest_mend, PROGRAM, wishes[1:], options)

    def test_no_choice_mends(self):
        wishes = (("leads", FACTS, FACT), ("spares", FACTS, FACT))
        self.assert_answer(None, cheapest_mend, PROGRAM, wishes, OPTIONS)
        self.assert_answer(None, cheapest_mend, PROGRAM, (("within", (KINDS, ())), ("over", PROGRAM)), OPTIONS)

    def test_within_and_over_together(self):
        both = (KINDS, tuple(sorted((FRONT, BACK))))
        self.assert_answer((0,), cheapest_mend, PROGRAM, (("within", both), ("over", both)), OPTIONS)
        self.assert_answer((0,), cheapest_mend, PROGRAM, (("over", both),), OPTIONS)
        self.assert_answer((), cheapest_mend, PROGRAM, (("within", both),), OPTIONS)

    def test_limits_of_what_is_looked_at(self):
        wide = ((2, ()), ((0, (-1, -2)), (0, (-3, -4))), ())
        within = ("within", PROGRAM)
        options = (("put", wide, 1), ("put", FLAG, 2))
        leads = ("leads", ((1, (3,)),), (2, ()))
        # The choices have 2, 17, 6 and 58 ways.
        self.assert_answer(None, cheapest_mend, PROGRAM, (within, leads), options, tries=58)
        self.assert_exceeded(cheapest_mend, PROGRAM, (within, leads), options, tries=57)
        # What is not looked at does not count: a wish behind one that is not kept, a choice behind one that mends.
        self.assert_answer((1,), cheapest_mend, PROGRAM, (leads, ("within", OTHER)), options, tries=6)
        self.assert_exceeded(cheapest_mend, PROGRAM, (leads, ("within", OTHER)), options, tries=5)
        self.assert_answer((1,), cheapest_mend, PROGRAM, (leads, ("over", PROGRAM)), options, tries=5)
        self.assert_exceeded(cheapest_mend, PROGRAM, (leads, ("over", PROGRAM)), options, tries=4)
        self.assert_answer((), cheapest_mend, PROGRAM, (within,), options, tries=2)
        self.assert_exceeded(cheapest_mend, PROGRAM, (within,), options, tries=1)

    def test_at_random(self):
        source = random.Random(42)
        counts = {}
        for _ in range(250):
            program = draw_program(source, draw_kinds(source), (0, 1), 2, 3)
            wishes = tuple(draw_wish(source, program) for _ in range(source.randint(1, 3)))
            options = draw_options(source, program)
            expected = plain_mend(program, wishes, options)
            name = None if expected is None else len(expected)
            counts[name] = counts.get(name, 0) + 1
            self.assert_answer(expected, cheapest_mend, program, wishes, options, tries=1000)
            self.assert_limit(program, wishes, options, expected)
        self.assertLessEqual({None, 0, 1}, set(counts))

    def assert_limit(self, program, wishes, options, mend):
        """Tell the greatest number of ways that have to be looked at; one less is too few."""
        most = 0
        for choice in plain_choices(program, options):
            changed = plain_changed(program, options, choice)
            for wish in wishes:
                if wish[0] in ("within", "over"):
                    pair = (changed, wish[1]) if wish[0] == "within" else (wish[1], changed)
                    most = max(most, next(many for many in range(1, 1001) if self.is_enough(pair, many)))
                if not plain_keeps(changed, wish):
                    break
            if choice == mend:
                break
        self.assert_answer(mend, cheapest_mend, program, wishes, options, tries=max(1, most))
        if most > 1:
            self.assert_exceeded(cheapest_mend, program, wishes, options, tries=most - 1)

    def is_enough(self, pair, tries):
        try:
            is_within(*pair, tries=tries)
        except LimitExceeded:
            return False
        return True

    def test_arguments_by_name(self):
        wishes = (("leads", FACTS, FACTS[0]),)
        self.assertEqual(cheapest_mend(tries=4, options=OPTIONS, wishes=wishes, program=PROGRAM), ())
        self.assertRaises(TypeError, cheapest_mend, PROGRAM, wishes, OPTIONS, 300)


if __name__ == "__main__":
    unittest.main()
