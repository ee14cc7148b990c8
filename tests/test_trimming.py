import random
import unittest

from leadalike.comparing import are_alike, is_within
from leadalike.errors import LimitExceeded
from leadalike.programs import known_things, require_program
from leadalike.trimming import is_needless, needless_conditions, trimmed, without_condition, without_rule
from tests.plainly import plain_rounds, plain_variables, plain_ways
from tests.randomly import draw_facts, draw_kinds, draw_program
from tests.samples import answer_leaving_arguments

# Kinds of 2, 1 and 0 things.
KINDS = (2, 1, 0)
FULL = ((1, (-1,)), ((0, (-1, -2)), (1, (-2,)), (2, ())), ((-2, -1), (-1, 3), (4, 5)))
# The kinds 0 and 1 lead to each other; either atom of the last rule is needless, but not both are.
EITHER = ((1, 1, 1), (
    ((0, (-1,)), ((1, (-1,)),), ()), ((1, (-1,)), ((0, (-1,)),), ()), ((2, (-1,)), ((0, (-1,)), (1, (-1,))), ()),
))
# Each of the last three rules is needless as long as the others of them are there.
CYCLE = ((1, 1, 1, 1), (
    ((0, (-1,)), ((1, (-1,)),), ()), ((1, (-1,)), ((0, (-1,)),), ()),
    ((2, (-1,)), ((0, (-1,)),), ()), ((2, (-1,)), ((1, (-1,)),), ()),
))
FOUR = ((2, ()), ((0, (-1, -2)), (0, (-3, -4))), ())


def conditions(program):
    return [(index, place) for index, rule in enumerate(program[1]) for place in range(len(rule[1]) + len(rule[2]))]


def plain_rule_without(rule, place):
    """The rule without the condition, be it a rule or not."""
    head, body, unlike = rule
    marked = [(atom, "body") for atom in body] + [(pair, "unlike") for pair in unlike]
    del marked[place]
    return (head, *(tuple(part for part, where in marked if where == name) for name in ("body", "unlike")))


def is_one(rule):
    terms = [*rule[0][1], *(term for pair in rule[2] for term in pair)]
    return all(term >= 0 or term in plain_variables(rule) for term in terms)


def plain_without_condition(program, index, place):
    rules = list(program[1])
    rules[index] = plain_rule_without(rules[index], place)
    return (program[0], tuple(sorted(set(rules)))) if is_one(rules[index]) else None


def plain_is_needless(program, index, place=None):
    if place is None:
        return is_within(program, without_rule(program, index), tries=10 ** 6)
    changed = plain_without_condition(program, index, place)
    return changed is not None and is_within(changed, program, tries=10 ** 6)


def plain_trimmed(program):
    """The trimmed program, and the greatest number of ways that any rule that was looked at has."""
    most = 0
    changed = True
    while changed:
        changed = False
        looked = [*conditions(program), "rules", *((index, None) for index in range(len(program[1])))]
        for each in looked:
            if each == "rules":
                continue
            most = max(most, count_ways(program, *each))
            if plain_is_needless(program, *each):
                program = without_rule(program, each[0]) if each[1] is None else without_condition(program, *each)
                changed = True
                break
    return program, most


def count_ways(program, index, place=None):
    """The number of ways that decide whether this is needless, 0 if the rule without the condition is none."""
    rule = program[1][index] if place is None else plain_rule_without(program[1][index], place)
    return len(plain_ways(rule, known_things(program))) if is_one(rule) else 0


class Trimming(unittest.TestCase):
    def assert_answer(self, expected, call, *arguments, **named):
        with self.subTest(call=call.__name__, arguments=arguments, **named):
            require_program(arguments[0])
            answer = answer_leaving_arguments(self, call, *arguments, **named)
            self.assertEqual(repr(answer), repr(expected))

    def assert_exceeded(self, call, *arguments, **named):
        with self.subTest(call=call.__name__, arguments=arguments, **named):
            error = answer_leaving_arguments(self, call, *arguments, **named)
            self.assertIs(error.__class__, LimitExceeded)
            self.assertEqual(error.limit, named.get("tries", 300))


class Example(unittest.TestCase):
    def test_the_answers_of_the_document(self):
        long = ((1, (-1,)), ((0, (-1,)), (0, (-2,))), ())
        program = ((1, 1), (long, ((1, (3,)), ((0, (3,)),), ())))
        self.assertEqual(
            (needless_conditions(program), trimmed(program)),
            (((0, 1),), ((1, 1), (((1, (-1,)), ((0, (-1,)),), ()),))),
        )

    def test_each_function_is_defined_in_its_file(self):
        for call in (without_rule, without_condition, is_needless, needless_conditions, trimmed):
            self.assertEqual(call.__module__, "leadalike.trimming")


class WithoutRule(Trimming):
    def test_each_of_several(self):
        rules = CYCLE[1]
        for index in range(4):
            self.assert_answer((CYCLE[0], rules[:index] + rules[index + 1:]), without_rule, CYCLE, index)

    def test_the_only_one(self):
        self.assert_answer((KINDS, ()), without_rule, (KINDS, (FULL,)), 0)

    def test_arguments_by_name(self):
        self.assertEqual(without_rule(index=0, program=CYCLE), (CYCLE[0], CYCLE[1][1:]))


class WithoutCondition(Trimming):
    def assert_without(self, expected, rule, place):
        """A rule or None is expected."""
        program = None if expected is None else (KINDS, (expected,))
        self.assert_answer(program, without_condition, (KINDS, (rule,)), 0, place)

    def test_each_condition(self):
        head, body, unlike = FULL
        # Only the first atom has the variable -1, only it and the second one have -2.
        self.assert_without(None, FULL, 0)
        self.assert_without((head, (body[0], body[2]), unlike), FULL, 1)
        self.assert_without((head, body[:2], unlike), FULL, 2)
        self.assert_without((head, body, unlike[1:]), FULL, 3)
        self.assert_without((head, body, (unlike[0], unlike[2])), FULL, 4)
        self.assert_without((head, body, unlike[:2]), FULL, 5)

    def test_no_rule_is_left_for_a_variable_of_the_head(self):
        self.assert_without(None, ((1, (-1,)), ((1, (-1,)),), ()), 0)
        self.assert_without(None, ((0, (3, -2)), ((2, ()), (1, (-2,)), (1, (3,))), ()), 1)

    def test_no_rule_is_left_for_a_variable_of_a_pair(self):
        self.assert_without(None, ((2, ()), ((1, (-1,)), (1, (-2,))), ((-2, -1),)), 0)
        self.assert_without(None, ((2, ()), ((1, (-1,)), (1, (-2,))), ((-2, -1),)), 1)
        self.assert_without(None, ((2, ()), ((1, (-1,)),), ((-1, 3),)), 0)
        self.assert_without(((2, ()), ((1, (-1,)),), ()), ((2, ()), ((1, (-1,)),), ((-1, 3),)), 1)

    def test_a_rule_without_conditions_is_left(self):
        self.assert_without(((2, ()), (), ()), ((2, ()), ((1, (-1,)),), ()), 0)
        self.assert_without(((2, ()), (), ()), ((2, ()), (), ((3, 4),)), 0)
        self.assert_without(((2, ()), (), ((3, 4),)), ((2, ()), ((1, (-1,)),), ((3, 4),)), 0)

    def test_an_atom_twice(self):
        rule = ((1, (-1,)), ((1, (-1,)), (0, (-1, -1)), (1, (-1,))), ())
        self.assert_without(((1, (-1,)), ((0, (-1, -1)), (1, (-1,))), ()), rule, 0)
        self.assert_without(((1, (-1,)), ((1, (-1,)), (0, (-1, -1))), ()), rule, 2)

    def test_the_rules_are_ascending_then(self):
        rules = (
            ((1, (-1,)), ((0, (-1, -2)),), ()), ((1, (-1,)), ((0, (-1, -1)), (2, ())), ()),
            ((1, (-1,)), ((1, (-1,)), (2, ())), ()),
        )
        changed = ((1, (-1,)), ((1, (-1,)),), ())
        self.assert_answer((KINDS, (*rules[:2], changed)), without_condition, (KINDS, rules), 2, 1)
        first = ((1, (-1,)), ((0, (-1, -1)),), ())
        self.assert_answer((KINDS, (rules[0], first, rules[2])), without_condition, (KINDS, rules), 1, 1)
        long = ((1, (-1,)), ((0, (-1, -2)), (0, (-1, -1))), ())
        self.assert_answer(
            (KINDS, (first, rules[2])), without_condition, (KINDS, (long, rules[2])), 0, 0,
        )
        moved = ((1, (-1,)), ((2, ()), (1, (-1,))), ())
        program = (KINDS, (rules[2], moved))
        self.assert_answer((KINDS, (changed, rules[2])), without_condition, program, 1, 0)

    def test_once_where_the_program_has_the_rule_already(self):
        short = ((1, (-1,)), ((1, (-1,)),), ())
        long = ((1, (-1,)), ((1, (-1,)), (2, ())), ())
        self.assert_answer((KINDS, (short,)), without_condition, (KINDS, (short, long)), 1, 1)

    def test_arguments_by_name(self):
        self.assertEqual(without_condition(place=5, index=0, program=(KINDS, (FULL,)))[1][0][2], FULL[2][:2])


class IsNeedless(Trimming):
    def test_rules(self):
        for index in range(4):
            self.assert_answer(index >= 2, is_needless, CYCLE, index)
        self.assert_answer(False, is_needless, (KINDS, (FULL,)), 0)

    def test_a_rule_that_leads_to_nothing_new(self):
        self.assert_answer(True, is_needless, ((1,), (((0, (-1,)), ((0, (-1,)),), ()),)), 0)
        self.assert_answer(True, is_needless, (KINDS, (((0, (-1, -2)), ((0, (-1, -2)), (1, (-1,))), ()),)), 0)

    def test_a_rule_that_another_one_covers(self):
        program = ((1, 1), (((1, (-1,)), ((0, (-1,)),), ()), ((1, (3,)), ((0, (3,)),), ())))
        self.assert_answer(False, is_needless, program, 0)
        self.assert_answer(True, is_needless, program, 1)

    def test_a_rule_that_several_others_cover_together(self):
        rules = (
            ((1, (-1,)), ((0, (-1,)),), ()), ((1, (-1,)), ((0, (-1,)),), ((-1, 3),)), ((1, (3,)), ((0, (3,)),), ()),
        )
        for index in range(3):
            self.assert_answer(True, is_needless, ((1, 1), rules), index)
        for index in range(2):
            self.assert_answer(False, is_needless, ((1, 1), rules[1:]), index)

    def test_conditions(self):
        self.assert_answer(False, is_needless, EITHER, 0, 0)
        self.assert_answer(False, is_needless, EITHER, 1, 0)
        self.assert_answer(True, is_needless, EITHER, 2, 0)
        self.assert_answer(True, is_needless, EITHER, 2, 1)

    def test_pairs(self):
        kinds = (2, 2)
        rule = ((1, (-1, -2)), ((0, (-1, -2)),), ((-2, -1), (-1, 4), (3, 7)))
        self.assert_answer(False, is_needless, (kinds, (rule,)), 0, 0)
        self.assert_answer(False, is_needless, (kinds, (rule,)), 0, 1)
        self.assert_answer(False, is_needless, (kinds, (rule,)), 0, 2)
        self.assert_answer(True, is_needless, (kinds, (rule,)), 0, 3)
        alike = ((1, (-1, -1)), ((0, (-1, -1)),), ())
        known = ((1, (4, -2)), ((0, (4, -2)),), ())
        program = (kinds, tuple(sorted((rule, alike, known))))
        place = program[1].index(rule)
        # Where a pair is not unlike, one of the other rules leads to the head.
        for condition in (1, 2, 3):
            self.assert_answer(True, is_needless, program, place, condition)
        self.assert_answer(False, is_needless, (kinds, tuple(sorted((rule, known)))), place, 1)
        self.assert_answer(True, is_needless, (kinds, tuple(sorted((rule, known)))), place, 2)
        apart = (rule[0], rule[1], rule[2][:1])
        program = (kinds, tuple(sorted((apart, alike))))
        self.assert_answer(True, is_needless, program, program[1].index(apart), 1)

    def test_a_pair_whose_variables_could_be_the_same(self):
        # Where -1 and -2 are the same, the head is a fact of the body.
        rule = ((0, (-1, -1)), ((0, (-1, -2)),), ((-2, -1),))
        self.assert_answer(True, is_needless, (KINDS, (rule,)), 0, 1)

    def test_false_if_the_rule_without_it_is_none(self):
        self.assert_answer(False, is_needless, ((1,), (((0, (-1,)), ((0, (-1,)),), ()),)), 0, 0)
        self.assert_answer(False, is_needless, (KINDS, (FULL,)), 0, 0)

    def test_a_condition_whose_rule_without_it_is_there_already(self):
        short = ((1, (-1,)), ((1, (-1,)),), ())
        long = ((1, (-1,)), ((1, (-1,)), (2, ())), ())
        self.assert_answer(True, is_needless, (KINDS, (short, long)), 1, 1)
        self.assert_answer(False, is_needless, (KINDS, (short, long)), 1, 0)

    def test_the_program_itself_may_use_the_rule_with_the_condition(self):
        # What a rule without the condition leads to, the rule with it leads to in more rounds.
        steps = (
            ((0, (-1,)), ((1, (-1,)),), ()),
            ((2, (-1,)), ((0, (-1,)), (1, (-1,))), ()),
        )
        self.assert_answer(False, is_needless, ((1, 1, 1), steps), 1, 1)
        self.assert_answer(True, is_needless, ((1, 1, 1), steps), 1, 0)

    def test_arguments_by_place_and_by_name(self):
        self.assertIs(is_needless(EITHER, 2, 1, tries=1), True)
        self.assertIs(is_needless(place=1, index=2, program=EITHER), True)
        self.assertIs(is_needless(CYCLE, 3, None), True)
        self.assertRaises(TypeError, is_needless, EITHER, 2, 1, 300)

    def test_at_random(self):
        source = random.Random(16)
        answers = {True: 0, False: 0}
        for _ in range(150):
            program = draw_program(source, draw_kinds(source), source.choice(((), (0,), (1, 5))), 3, 4)
            needless = [each for each in conditions(program) if plain_is_needless(program, *each)]
            with self.subTest(program=program):
                self.assertEqual(needless_conditions(program, tries=1000), tuple(needless))
                for index, place in conditions(program):
                    self.assertIs(is_needless(program, index, place, tries=1000), (index, place) in needless)
                    changed = without_condition(program, index, place)
                    self.assertEqual(changed, plain_without_condition(program, index, place))
                for index in range(len(program[1])):
                    answer = is_needless(program, index, tries=1000)
                    answers[answer] += 1
                    self.assertIs(answer, plain_is_needless(program, index))
        self.assertGreater(min(answers.values()), 30)


class NeedlessConditions(Trimming):
    def test_all_of_them_ascending(self):
        self.assert_answer(((2, 0), (2, 1)), needless_conditions, EITHER)
        self.assert_answer((), needless_conditions, CYCLE)
        self.assert_answer((), needless_conditions, (KINDS, ()))
        self.assert_answer((), needless_conditions, (KINDS, (((2, ()), (), ()),)))
        rule = ((1, (-1,)), ((1, (-1,)), (2, ()), (1, (-1,))), ((3, 4), (5, 6)))
        self.assert_answer(tuple((0, place) for place in range(5)), needless_conditions, (KINDS, (rule,)))

    def test_tries_by_name_alone(self):
        self.assertRaises(TypeError, needless_conditions, EITHER, 300)
        self.assertRaises(TypeError, trimmed, EITHER, 300)


class Trimmed(Trimming):
    def test_nothing_to_leave_out(self):
        for program in ((KINDS, ()), (KINDS, (((2, ()), (), ()),)), (CYCLE[0], CYCLE[1][:3])):
            self.assert_answer(program, trimmed, program)

    def test_the_first_needless_condition_is_left_out(self):
        left = ((2, (-1,)), ((1, (-1,)),), ())
        self.assert_answer((EITHER[0], (*EITHER[1][:2], left)), trimmed, EITHER)

    def test_the_first_needless_rule_is_left_out(self):
        self.assert_answer((CYCLE[0], (*CYCLE[1][:2], CYCLE[1][3])), trimmed, CYCLE)

    def test_a_rule_that_leads_to_a_fact_of_its_body_goes(self):
        self.assert_answer(((1,), ()), trimmed, ((1,), (((0, (-1,)), ((0, (-1,)),), ()),)))
        rule = ((1, (-1,)), ((1, (-1,)), (2, ()), (1, (-1,))), ((3, 4), (5, 6)))
        self.assert_answer((KINDS, ()), trimmed, (KINDS, (rule,)))

    def test_conditions_before_rules(self):
        # The second rule is needless, but so is a condition of the first one: without it both are the same.
        long = ((1, (-1,)), ((0, (-1,)), (0, (-2,))), ())
        short = ((1, (-1,)), ((0, (-1,)),), ())
        self.assert_answer(((1, 1), (short,)), trimmed, ((1, 1), (short, long)))

    def test_what_is_needless_only_after_something_was_left_out(self):
        # Without the condition (2,) of the second rule the third rule is needless.
        rules = (
            ((1, (-1,)), ((0, (-1,)), (0, (-2,))), ((-1, 3),)), ((1, (3,)), ((0, (3,)), (0, (-4,))), ((5, 6),)),
        )
        whole = ((1, (-1,)), ((0, (-1,)),), ())
        self.assert_answer(((1, 1), (whole,)), trimmed, ((1, 1), rules))

    def test_at_random(self):
        source = random.Random(17)
        changes = 0
        for _ in range(120):
            program = draw_program(source, draw_kinds(source), source.choice(((), (0,), (1, 5))), 3, 5)
            expected, most = plain_trimmed(program)
            answer = trimmed(program, tries=1000)
            changes += answer != program
            with self.subTest(program=program):
                self.assertEqual(answer, expected)
                self.assertTrue(are_alike(program, answer, tries=1000))
                self.assertEqual(needless_conditions(answer, tries=1000), ())
                self.assertFalse(any(is_needless(answer, index, tries=1000) for index in range(len(answer[1]))))
                for _ in range(3):
                    facts = draw_facts(source, program[0], (0, 1, 5, 29), 4)
                    self.assertEqual(plain_rounds(program, facts)[-1], plain_rounds(answer, facts)[-1])
            if most > 1:
                self.assert_answer(expected, trimmed, program, tries=most)
                self.assert_exceeded(trimmed, program, tries=most - 1)
        self.assertGreater(changes, 40)

    def test_arguments_by_name(self):
        self.assertEqual(trimmed(tries=1, program=CYCLE), (CYCLE[0], (*CYCLE[1][:2], CYCLE[1][3])))


class Limits(Trimming):
    def test_the_ways_of_the_rule_alone_count(self):
        # 15 ways without known things; the other rule has one way.
        program = (KINDS, (FOUR, ((2, ()), ((0, (-1, -1)),), ())))
        self.assert_answer(False, is_needless, program, 0, tries=15)
        self.assert_exceeded(is_needless, program, 0, tries=14)
        self.assert_answer(True, is_needless, program, 1, tries=1)

    def test_the_ways_of_the_rule_without_the_condition_count(self):
        # Without an atom there are two variables and two ways left, without the pair 15.
        rule = FOUR[:2] + (((-2, -1),),)
        program = (KINDS, (rule,))
        self.assert_exceeded(is_needless, program, 0, tries=9)
        self.assert_answer(False, is_needless, program, 0, tries=10)
        self.assert_answer(True, is_needless, program, 0, 1, tries=1)
        self.assert_exceeded(is_needless, program, 0, 2, tries=14)
        self.assert_answer(False, is_needless, program, 0, 2, tries=15)

    def test_the_known_things_of_the_whole_program_count(self):
        program = (KINDS, (((1, (3,)), ((1, (7,)),), ()), ((2, ()), ((0, (-1, -2)), (2, ())), ((-2, 3),))))
        for place, many in ((None, 7), (0, 0), (1, 7), (2, 10)):
            if many:
                self.assert_exceeded(is_needless, program, 1, place, tries=many - 1)
            self.assertIsInstance(is_needless(program, 1, place, tries=max(1, many)), bool)

    def test_no_ways_count_if_the_rule_without_the_condition_is_none(self):
        rule = ((0, (-1, -2)), ((0, (-1, -2)),), ())
        program = (KINDS, (rule, ((1, (0,)), ((1, (9,)),), ())))
        self.assert_answer(False, is_needless, program, 0, 0, tries=1)
        self.assert_exceeded(is_needless, program, 0, tries=1)
        self.assert_answer((), needless_conditions, program, tries=1)

    def test_whatever_the_answer_would_be(self):
        # The first way shows that it is not needless.
        self.assert_exceeded(is_needless, (KINDS, (((2, ()), ((0, (-1, -2)),), ()),)), 0, tries=1)
        short = ((1, (-1,)), ((0, (-1, -2)),), ())
        long = ((1, (-1,)), ((0, (-1, -2)), (1, (-2,))), ())
        # Needless, as the rule without it is there already.
        self.assert_exceeded(is_needless, (KINDS, (short, long)), 1, 1, tries=1)
        self.assert_answer(True, is_needless, (KINDS, (short, long)), 1, 1, tries=2)

    def test_needless_conditions_raises_for_any_of_them(self):
        rules = (((1, (-1,)), ((1, (-1,)), (2, ())), ()), ((2, ()), ((0, (-1, -2)), (1, (-1,))), ((-2, -1),)))
        program = (KINDS, rules)
        # The last condition asks for two ways, each other one for one.
        self.assert_exceeded(needless_conditions, program, tries=1)
        self.assert_answer(((0, 1),), needless_conditions, program, tries=2)

    def test_three_hundred_by_default(self):
        # Three variables and six known things have 365 ways, with one pair 315, with two 272 or 265.
        known = ((1, (0,)), ((0, (1, 2)), (0, (3, 4)), (1, (5,))), ())
        body = ((0, (-1, -2)), (1, (-3,)))
        three = (KINDS, (known, ((2, ()), body, ((-3, -1), (-2, -1), (-1, 0)))))
        two = (KINDS, (known, ((2, ()), body, ((-2, -1), (-1, 0)))))
        for program, index, place in ((two, 1, 2), (two, 1, 3), (two, 0, None), (three, 1, None)):
            many = count_ways(program, index, place)
            if many > 300:
                self.assert_exceeded(is_needless, program, index, place)
            else:
                self.assert_answer(False, is_needless, program, index, place)
        self.assertEqual([count_ways(two, 1, place) for place in (None, 2, 3)], [272, 315, 315])
        self.assert_answer(False, is_needless, two, 1)
        self.assert_exceeded(needless_conditions, two)
        self.assert_exceeded(trimmed, two)
        self.assert_answer((), needless_conditions, two, tries=315)

    def test_trimmed_raises_for_what_it_looks_at_alone(self):
        # The first needless condition tells six things, without which the second rule has few ways.
        first = ((1, (-1,)), ((0, (4, 5)), (1, (-1,))), ((1, 2), (3, 6)))
        second = ((2, ()), ((0, (-1, -2)), (1, (-3,))), ((-2, -1),))
        program = (KINDS, (first, second))
        self.assert_exceeded(needless_conditions, program)
        self.assertEqual(count_ways(program, 1, 2), 365)
        left = (KINDS, (second,))
        # Five ways without known things and without the pair; seven for the rule that is left at first.
        self.assert_answer(left, trimmed, program, tries=7)
        self.assert_answer(left, trimmed, program)
        self.assert_exceeded(trimmed, program, tries=6)

    def test_trimmed_looks_at_the_rules_when_no_condition_is_needless(self):
        # No condition has a rule without it, but the rule has two ways.
        program = ((2,), (((0, (-2, -1)), ((0, (-1, -2)),), ()),))
        self.assert_exceeded(trimmed, program, tries=1)
        self.assert_answer(program, trimmed, program, tries=2)

    def test_very_many_ways(self):
        known = [((1, (thing,)), ((1, (thing + 5,)),), ()) for thing in range(5)]
        program = (KINDS, tuple(sorted([FOUR, *known])))
        self.assert_exceeded(is_needless, program, 5)
        # No condition of the first rule has a rule without it, so that the rule itself is looked at.
        apart = ((0, (-1, -3)), ((0, (-1, -2)), (0, (-3, -4))), ((-4, -2),))
        self.assert_exceeded(trimmed, (KINDS, tuple(sorted([apart, *known]))), tries=1000)


if __name__ == "__main__":
    unittest.main()
