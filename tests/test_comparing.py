import random
import unittest

from leadalike.comparing import are_alike, is_within, parting
from leadalike.errors import LimitExceeded
from leadalike.programs import known_by_either, require_program
from tests.plainly import plain_body, plain_fact, plain_rounds, plain_ways
from tests.randomly import draw_facts, draw_kinds, draw_program
from tests.samples import answer_leaving_arguments

STEP = ((0, (-1, -2)), ((1, (-1, -2)),), ())
FIRST = ((0, (-1, -3)), ((1, (-1, -2)), (0, (-2, -3))), ())
LAST = ((0, (-1, -3)), ((0, (-1, -2)), (1, (-2, -3))), ())
BOTH = ((0, (-1, -3)), ((0, (-1, -2)), (0, (-2, -3))), ())
# All paths of the kind 1, made longer at their front, at their end, or put together.
BY_FRONT = ((2, 2), (FIRST, STEP))
BY_END = ((2, 2), (LAST, STEP))
BY_BOTH = ((2, 2), (BOTH, STEP))
FOUR = ((2, ()), ((0, (-1, -2)), (0, (-3, -4))), ())
THREE = ((2, ()), ((0, (-1, -2)), (1, (-3,))), ())


def plain_count(one, other):
    known = known_by_either(one, other)
    return sum(len(plain_ways(rule, known)) for rule in one[1])


def plain_parting(one, other):
    for index, rule in enumerate(one[1]):
        for values in plain_ways(rule, known_by_either(one, other)):
            facts = tuple(set(plain_body(rule, values)))
            if plain_fact(rule, rule[0], values) not in plain_rounds(other, facts)[-1]:
                return (index, values)
    return None


class Comparing(unittest.TestCase):
    def assert_parting(self, expected, one, other, **named):
        with self.subTest(one=one, other=other, **named):
            require_program(one)
            require_program(other)
            answer = answer_leaving_arguments(self, parting, one, other, **named)
            self.assertEqual(repr(answer), repr(expected))
            within = answer_leaving_arguments(self, is_within, one, other, **named)
            self.assertIs(within, expected is None)

    def assert_exceeded(self, calls, one, other, **named):
        for call in calls:
            with self.subTest(call=call.__name__, one=one, other=other, **named):
                error = answer_leaving_arguments(self, call, one, other, **named)
                self.assertIs(error.__class__, LimitExceeded)
                self.assertEqual(error.limit, named.get("tries", 300))


class Example(unittest.TestCase):
    def test_the_answers_of_the_document(self):
        one = ((2, 2), (((1, (-1, -2)), ((0, (-1, -2)),), ()),))
        other = ((2, 2), (((1, (-1, -2)), ((0, (-1, -2)),), ((-2, -1),)),))
        self.assertEqual((is_within(other, one), parting(one, other)), (True, (0, (0, 0))))

    def test_each_function_is_defined_in_its_file(self):
        for call in (is_within, parting, are_alike):
            self.assertEqual(call.__module__, "leadalike.comparing")


class Within(Comparing):
    def test_programs_without_rules(self):
        empty = ((2, 2), ())
        self.assert_parting(None, empty, empty)
        self.assert_parting(None, empty, BY_FRONT)
        self.assert_parting((0, (0, 1, 0)), BY_FRONT, empty)

    def test_each_program_is_within_itself(self):
        for program in (BY_FRONT, BY_END, BY_BOTH):
            self.assert_parting(None, program, program)

    def test_recursive_rules(self):
        for one in (BY_FRONT, BY_END):
            self.assert_parting(None, one, BY_BOTH)
        # Alike for lots of facts of the kind 1 alone, but not where there are facts of the kind 0 as well.
        for one, other in ((BY_BOTH, BY_FRONT), (BY_BOTH, BY_END), (BY_FRONT, BY_END), (BY_END, BY_FRONT)):
            self.assert_parting((0, (0, 1, 0)), one, other)

    def test_more_than_one_round_is_needed(self):
        chain = ((1,) * 4, tuple(((kind + 1, (-1,)), ((kind, (-1,)),), ()) for kind in range(3)))
        far = ((1,) * 4, (((3, (-1,)), ((0, (-1,)),), ()),))
        self.assert_parting(None, far, chain)
        self.assert_parting((0, (0,)), chain, far)

    def test_the_first_rule_and_the_first_way(self):
        # Each rule of the first program parts them; that of the least index counts, then its least way.
        other = ((2, 1), (((1, (-1,)), ((0, (-1, -1)),), ()), ((1, (4,)), ((0, (-1, -2)),), ())))
        one = ((2, 1), (((1, (-1,)), ((0, (-1, -2)),), ()), ((1, (9,)), (), ())))
        self.assert_parting((0, (0, 1)), one, other)
        self.assert_parting((0, (0, 1)), (one[0], one[1][:1]), other)
        self.assert_parting((1, ()), (one[0], other[1][:1] + one[1][1:]), other)
        self.assert_parting((0, (0, 1)), (one[0], one[1][:1]), (one[0], other[1][:1]))
        self.assert_parting((0, (4, 0)), one, (one[0], (((1, (-1,)), ((0, (-1, -2)),), ((-1, 4),)),)))

    def test_a_way_with_a_known_thing_that_only_the_other_program_has(self):
        one = ((1, 0), (((1, ()), ((0, (-1,)),), ()),))
        other = ((1, 0), (((1, ()), ((0, (-1,)),), ((-1, 3),)),))
        self.assert_parting((0, (3,)), one, other)
        self.assert_parting(None, other, one)

    def test_a_way_with_a_known_thing_that_only_the_first_program_has(self):
        one = ((1, 1, 0), (((1, (5,)), (), ()), ((2, ()), ((0, (-1,)),), ())))
        self.assert_parting((1, (0,)), one, (one[0], one[1][:1]))
        self.assert_parting((0, ()), one, (one[0], one[1][1:]))

    def test_cases_together_lead_as_far_as_one_rule(self):
        whole = ((1, 0), (((1, ()), ((0, (-1,)),), ()),))
        cases = ((1, 0), (((1, ()), ((0, (-1,)),), ((-1, 3),)), ((1, ()), ((0, (3,)),), ())))
        self.assert_parting(None, whole, cases)
        self.assert_parting(None, cases, whole)
        self.assertIs(are_alike(whole, cases), True)

    def test_facts_of_the_kinds_that_rules_lead_to_count_too(self):
        one = ((0, 0, 0), (((1, ()), ((0, ()),), ()), ((2, ()), ((1, ()),), ())))
        other = ((0, 0, 0), (((1, ()), ((0, ()),), ()), ((2, ()), ((0, ()),), ())))
        self.assert_parting((1, ()), one, other)
        self.assert_parting(None, other, one)

    def test_pairs_that_can_not_be(self):
        one = ((2, 0), (((1, ()), ((0, (-1, -1)), (0, (-1, -2))), ((-2, -1),)),))
        other = ((2, 0), (((1, ()), ((0, (-1, -1)), (0, (-2, -1))), ()),))
        self.assert_parting(None, one, other)
        third = ((2, 0), (((1, ()), ((0, (-1, -2)), (0, (-2, -1))), ((-2, -1),)),))
        self.assert_parting((0, (0, 1)), one, third)

    def test_at_random(self):
        source = random.Random(14)
        answers = {"within": 0, "parting": 0}
        for _ in range(400):
            kinds = draw_kinds(source)
            things = source.choice(((), (0,), (1, 5)))
            one = draw_program(source, kinds, things, source.randint(1, 3), 3)
            other = draw_program(source, kinds, things, source.randint(1, 3), 4)
            if source.random() < 0.5:
                other = (kinds, tuple(sorted({*one[1][:2], *other[1]})))
            expected = plain_parting(one, other)
            answers["parting" if expected else "within"] += 1
            with self.subTest(one=one, other=other):
                self.assertEqual(parting(one, other, tries=1000), expected)
                self.assertIs(is_within(one, other, tries=1000), expected is None)
                back = expected is None and plain_parting(other, one) is None
                self.assertIs(are_alike(one, other, tries=1000), back)
                self.assert_is_so_for_facts(source, expected, one, other)
        self.assertGreater(min(answers.values()), 50)

    def assert_is_so_for_facts(self, source, expected, one, other):
        """What is within leads to no other facts from any facts; what is not does from those of the way."""
        if expected is not None:
            rule = one[1][expected[0]]
            facts = tuple(set(plain_body(rule, expected[1])))
            self.assertFalse(set(plain_rounds(one, facts)[-1]) <= set(plain_rounds(other, facts)[-1]))
            return
        for _ in range(4):
            facts = draw_facts(source, one[0], (0, 1, 5, 17, 29), 4)
            self.assertTrue(set(plain_rounds(one, facts)[-1]) <= set(plain_rounds(other, facts)[-1]))


class Alike(Comparing):
    def assert_alike(self, expected, one, other):
        for first, second in ((one, other), (other, one)):
            with self.subTest(first=first, second=second):
                self.assertIs(answer_leaving_arguments(self, are_alike, first, second), expected)

    def test_programs_that_are_alike(self):
        self.assert_alike(True, BY_BOTH, BY_BOTH)
        renamed = ((2, 2), (((0, (-4, -2)), ((0, (-4, -1)), (0, (-1, -2))), ()), ((0, (-4, -3)), ((1, (-4, -3)),), ())))
        self.assert_alike(True, BY_BOTH, renamed)
        self.assert_alike(True, BY_BOTH, ((2, 2), tuple(sorted((STEP, FIRST, BOTH)))))
        self.assert_alike(True, ((1,), ()), ((1,), (((0, (-1,)), ((0, (-1,)),), ()),)))

    def test_programs_of_which_one_is_within_the_other(self):
        self.assert_alike(False, BY_FRONT, BY_BOTH)
        self.assert_alike(False, ((2, 2), ()), BY_BOTH)

    def test_programs_of_which_none_is_within_the_other(self):
        self.assert_alike(False, BY_FRONT, BY_END)

    def test_arguments_by_name(self):
        self.assertIs(are_alike(other=BY_BOTH, one=BY_FRONT, tries=9), False)
        self.assertIs(is_within(other=BY_BOTH, one=BY_FRONT, tries=7), True)
        self.assertEqual(parting(other=BY_FRONT, one=BY_BOTH, tries=7), (0, (0, 1, 0)))

    def test_tries_by_name_alone(self):
        for call in (is_within, parting, are_alike):
            self.assertRaises(TypeError, call, BY_FRONT, BY_BOTH, 300)


class Limits(Comparing):
    def test_at_and_beside_the_number_of_ways(self):
        # 2 + 5 ways without known things.
        for one, other, expected in ((BY_FRONT, BY_BOTH, None), (BY_BOTH, BY_FRONT, (0, (0, 1, 0)))):
            self.assertEqual(plain_count(one, other), 7)
            for tries in (7, 8, 1000):
                self.assert_parting(expected, one, other, tries=tries)
            for tries in (1, 2, 6):
                self.assert_exceeded((is_within, parting, are_alike), one, other, tries=tries)

    def test_whatever_the_answer_would_be(self):
        # The first way of the first rule parts them, but the second rule has too many.
        kinds = (2, 1, 0)
        one = (kinds, (((1, (0,)), (), ()), FOUR))
        other = (kinds, ())
        self.assertEqual(plain_count(one, other), 53)
        self.assert_parting((0, ()), one, other, tries=53)
        self.assert_exceeded((is_within, parting, are_alike), one, other, tries=52)

    def test_the_things_known_by_either_count(self):
        kinds = (2, 1, 0)
        one = (kinds, (FOUR,))
        other = (kinds, (((1, (5,)), (), ()), FOUR))
        for first, second, many in ((one, one, 15), (one, other, 52), (other, one, 53)):
            self.assertEqual(plain_count(first, second), many)
            self.assert_exceeded((is_within, parting), first, second, tries=many - 1)
            answer = parting(first, second, tries=many)
            self.assertEqual(answer, (0, ()) if many == 53 else None)

    def test_the_ways_of_the_other_program_do_not_count(self):
        small = ((2, 1, 0), (((2, ()), ((0, (-1, -1)),), ()),))
        large = ((2, 1, 0), (FOUR,))
        self.assert_parting(None, small, large, tries=1)
        self.assert_parting((0, (0, 1, 0, 1)), large, small, tries=15)
        self.assert_exceeded((is_within, parting), large, small, tries=14)

    def test_no_ways_at_all(self):
        self.assert_parting(None, ((2, 2), ()), BY_BOTH, tries=1)

    def test_are_alike_counts_the_other_program_only_if_the_first_is_within(self):
        small = ((2, 1, 0), (((2, ()), ((0, (-1, -1)),), ()),))
        large = ((2, 1, 0), (FOUR,))
        self.assert_exceeded((are_alike,), small, large, tries=14)
        self.assertIs(are_alike(small, large, tries=15), False)
        apart = ((2, 1, 0), (((2, ()), ((1, (-1,)),), ()),))
        self.assertIs(are_alike(apart, large, tries=1), False)
        self.assert_exceeded((are_alike,), large, apart, tries=14)

    def test_three_hundred_by_default(self):
        # By two known things 151 + 4 * 37 + 1 ways, and one more.
        kinds = (2, 1, 0)
        threes = [((0, head), THREE[1], ()) for head in ((-1, -2), (-1, -3), (-2, -3), (-3, -3))]
        at = (kinds, tuple(sorted([FOUR, *threes, ((0, (3, 8)), (), ())])))
        above = (kinds, tuple(sorted([FOUR, *threes, ((0, (3, 8)), ((1, (-1,)),), ((-1, 3),))])))
        self.assertEqual((plain_count(at, at), plain_count(above, above)), (300, 301))
        self.assert_parting(None, at, at)
        self.assertIs(are_alike(at, at), True)
        self.assert_parting((0, (0, 0, 1)), at, (kinds, ()))
        for other in (above, (kinds, ())):
            self.assert_exceeded((is_within, parting, are_alike), above, other)
        self.assert_parting(None, above, above, tries=301)

    def test_very_many_ways(self):
        kinds = (2, 1, 0)
        known = [((1, (thing,)), ((1, (thing + 5,)),), ()) for thing in range(5)]
        one = (kinds, tuple(sorted([FOUR, *known])))
        self.assert_exceeded((is_within, parting, are_alike), one, one)
        self.assert_exceeded((is_within, parting, are_alike), one, (kinds, ()), tries=1000)

    def test_at_random(self):
        source = random.Random(15)
        for _ in range(120):
            kinds = draw_kinds(source)
            one = draw_program(source, kinds, (0, 4), source.randint(0, 3), 4)
            other = draw_program(source, kinds, (4, 6), source.randint(0, 3), 4)
            many, back = plain_count(one, other), plain_count(other, one)
            expected = parting(one, other, tries=max(1, many))
            for tries in (many - 1, many, many + 1):
                if tries < 1:
                    continue
                if many > tries:
                    self.assert_exceeded((is_within, parting, are_alike), one, other, tries=tries)
                else:
                    self.assert_parting(expected, one, other, tries=tries)
            if expected is None and many < back and back > 1:
                self.assert_exceeded((are_alike,), one, other, tries=back - 1)


if __name__ == "__main__":
    unittest.main()
