import itertools
import random
import unittest

from leadalike.programs import require_program
from leadalike.putting import body_with, head_with, holds, is_unlike, led_by, values_for
from tests.plainly import plain_body, plain_fact, plain_led_by, plain_unlike, plain_values_for, plain_variables
from tests.randomly import draw_facts, draw_kinds, draw_rule
from tests.samples import answer_leaving_arguments

# Kinds of 2, 1 and 0 things.
KINDS = (2, 1, 0)
PLAIN = ((2, ()), (), ())
FIXED = ((0, (3, 9)), ((1, (0,)), (2, ())), ((4, 5),))
STEP = ((0, (-1, -3)), ((0, (-1, -2)), (0, (-2, -3))), ())
ROUND_TRIP = ((0, (-3, -2)), ((0, (-3, -1)), (0, (-1, -2))), ((-3, -2), (-1, 5), (4, 5)))
FOUR = ((1, (-4,)), ((0, (-4, -3)), (2, ()), (0, (-2, -1))), ((-4, -1),))
TWICE = ((1, (-1,)), ((0, (-1, -1)), (0, (-1, -1))), ())


class Putting(unittest.TestCase):
    def assert_answer(self, expected, call, *arguments):
        with self.subTest(call=call.__name__, arguments=arguments):
            require_program((KINDS, (arguments[0],)))
            answer = answer_leaving_arguments(self, call, *arguments)
            # repr tells True from 1 and a list from a tuple.
            self.assertEqual(repr(answer), repr(expected))


class Example(unittest.TestCase):
    def test_the_answers_of_the_document(self):
        rule = ((1, (-1, -3)), ((0, (-1, -2)), (0, (-2, -3))), ((-3, -1),))
        facts = ((0, (1, 2)), (0, (2, 1)), (0, (2, 3)))
        self.assertEqual(
            (head_with(rule, (1, 2, 3)), values_for(rule, facts), led_by(rule, facts)),
            ((1, (1, 3)), ((1, 2, 3),), ((1, (1, 3)),)),
        )

    def test_each_function_is_defined_in_its_file(self):
        for call in (head_with, body_with, is_unlike, holds, values_for, led_by):
            self.assertEqual(call.__module__, "leadalike.putting")


class HeadWith(Putting):
    def test_rules_without_variables(self):
        self.assert_answer((2, ()), head_with, PLAIN, ())
        self.assert_answer((0, (3, 9)), head_with, FIXED, ())

    def test_values_stand_in_the_order_of_the_variables(self):
        self.assert_answer((0, (7, 9)), head_with, STEP, (7, 8, 9))
        self.assert_answer((0, (9, 8)), head_with, ROUND_TRIP, (7, 8, 9))
        self.assert_answer((1, (29,)), head_with, FOUR, (0, 1, 2, 29))

    def test_a_variable_twice_and_beside_a_thing(self):
        self.assert_answer((0, (6, 6)), head_with, ((0, (-2, -2)), ((1, (-2,)),), ()), (6,))
        self.assert_answer((0, (6, 3)), head_with, ((0, (-4, 3)), ((0, (-4, -2)),), ()), (5, 6))
        self.assert_answer((0, (3, 5)), head_with, ((0, (3, -2)), ((0, (-4, -2)),), ()), (5, 6))

    def test_values_beyond_the_things_of_rules(self):
        for thing in (0, 9, 10, 29):
            self.assert_answer((1, (thing,)), head_with, TWICE, (thing,))

    def test_the_pairs_do_not_matter(self):
        self.assert_answer((0, (5, 5)), head_with, ROUND_TRIP, (5, 5, 5))


class BodyWith(Putting):
    def test_a_body_of_no_atoms(self):
        self.assert_answer((), body_with, PLAIN, ())

    def test_a_body_without_variables(self):
        self.assert_answer(((1, (0,)), (2, ())), body_with, FIXED, ())

    def test_facts_stand_in_the_order_of_the_atoms(self):
        self.assert_answer(((0, (7, 8)), (0, (8, 9))), body_with, STEP, (7, 8, 9))
        self.assert_answer(((0, (9, 7)), (0, (7, 8))), body_with, ROUND_TRIP, (7, 8, 9))
        self.assert_answer(((0, (29, 2)), (2, ()), (0, (1, 0))), body_with, FOUR, (0, 1, 2, 29))

    def test_an_atom_twice(self):
        self.assert_answer(((0, (4, 4)), (0, (4, 4))), body_with, TWICE, (4,))
        self.assert_answer(((0, (4, 4)), (0, (4, 4))), body_with, STEP, (4, 4, 4))


class IsUnlike(Putting):
    def test_without_pairs(self):
        self.assert_answer(True, is_unlike, PLAIN, ())
        self.assert_answer(True, is_unlike, STEP, (4, 4, 4))

    def test_a_pair_of_two_variables(self):
        rule = ((2, ()), ((0, (-1, -2)), (1, (-4,))), ((-4, -2),))
        self.assert_answer(True, is_unlike, rule, (1, 2, 3))
        self.assert_answer(True, is_unlike, rule, (1, 1, 3))
        self.assert_answer(True, is_unlike, rule, (3, 1, 3))
        self.assert_answer(False, is_unlike, rule, (1, 3, 3))
        self.assert_answer(False, is_unlike, rule, (0, 0, 0))

    def test_a_pair_of_a_variable_and_a_thing(self):
        rule = ((2, ()), ((0, (-1, -2)),), ((-2, 7),))
        self.assert_answer(True, is_unlike, rule, (7, 6))
        self.assert_answer(True, is_unlike, rule, (7, 29))
        self.assert_answer(False, is_unlike, rule, (6, 7))
        self.assert_answer(False, is_unlike, rule, (7, 7))
        zero = ((2, ()), ((1, (-1,)),), ((-1, 0),))
        self.assert_answer(False, is_unlike, zero, (0,))
        self.assert_answer(True, is_unlike, zero, (1,))

    def test_a_pair_of_two_things(self):
        self.assert_answer(True, is_unlike, FIXED, ())
        self.assert_answer(True, is_unlike, ((2, ()), ((1, (-1,)),), ((0, 9),)), (9,))

    def test_each_of_three_pairs(self):
        rule = ((2, ()), ((0, (-1, -2)), (1, (-3,))), ((-3, -1), (-2, -1), (-2, 5)))
        for values in itertools.product(range(3, 7), repeat=3):
            one, two, three = values
            self.assert_answer(three != one and two != one and two != 5, is_unlike, rule, values)


class Holds(Putting):
    def test_rules_without_variables(self):
        self.assert_answer(True, holds, PLAIN, (), ())
        self.assert_answer(True, holds, PLAIN, (), ((2, ()),))
        self.assert_answer(True, holds, FIXED, (), ((1, (0,)), (2, ())))
        self.assert_answer(False, holds, FIXED, (), ((1, (0,)),))
        self.assert_answer(False, holds, FIXED, (), ((0, (3, 9)), (2, ())))
        self.assert_answer(False, holds, FIXED, (), ())

    def test_each_fact_of_the_body_is_asked_for(self):
        facts = ((0, (1, 2)), (0, (2, 3)))
        self.assert_answer(True, holds, STEP, (1, 2, 3), facts)
        self.assert_answer(False, holds, STEP, (1, 2, 3), facts[:1])
        self.assert_answer(False, holds, STEP, (1, 2, 3), facts[1:])
        self.assert_answer(False, holds, STEP, (2, 3, 1), facts)
        self.assert_answer(False, holds, STEP, (1, 3, 2), facts)

    def test_the_head_is_not_asked_for(self):
        self.assert_answer(True, holds, TWICE, (8,), ((0, (8, 8)),))
        self.assert_answer(True, holds, TWICE, (8,), ((0, (8, 8)), (1, (8,))))
        self.assert_answer(False, holds, TWICE, (8,), ((1, (8,)),))

    def test_the_pairs_are_asked_for(self):
        facts = ((0, (1, 1)), (0, (1, 2)), (0, (1, 5)), (0, (2, 1)), (0, (5, 2)), (0, (5, 5)))
        self.assert_answer(True, holds, ROUND_TRIP, (1, 1, 2), facts)
        self.assert_answer(False, holds, ROUND_TRIP, (1, 1, 1), facts)
        self.assert_answer(False, holds, ROUND_TRIP, (2, 1, 1), facts)
        # That of the thing 5 alone is not kept.
        self.assert_answer(False, holds, ROUND_TRIP, (5, 2, 1), facts)

    def test_arguments_by_name(self):
        self.assertIs(holds(facts=((0, (1, 1)),), values=(1,), rule=TWICE), True)
        self.assertIs(is_unlike(values=(5, 4, 3), rule=ROUND_TRIP), False)
        self.assertEqual(head_with(values=(1,), rule=TWICE), (1, (1,)))
        self.assertEqual(body_with(values=(1,), rule=TWICE), ((0, (1, 1)),) * 2)


class ValuesForAndLedBy(Putting):
    def assert_led(self, values, led, rule, facts):
        self.assert_answer(values, values_for, rule, facts)
        self.assert_answer(led, led_by, rule, facts)

    def test_the_one_row_of_a_rule_without_variables_that_holds(self):
        self.assert_led(((),), ((2, ()),), PLAIN, ())
        self.assert_led(((),), ((2, ()),), PLAIN, ((0, (1, 2)), (2, ())))
        self.assert_led(((),), ((0, (3, 9)),), FIXED, ((1, (0,)), (2, ())))

    def test_a_rule_without_variables_that_does_not_hold(self):
        self.assert_led((), (), FIXED, ((1, (0,)),))
        self.assert_led((), (), FIXED, ((1, (1,)), (2, ())))
        self.assert_led((), (), FIXED, ())

    def test_none_where_none_holds(self):
        for rule in (STEP, ROUND_TRIP, FOUR, TWICE):
            self.assert_led((), (), rule, ())
            self.assert_led((), (), rule, ((1, (3,)), (2, ())))
        self.assert_led((), (), STEP, ((0, (1, 2)), (0, (3, 4))))
        self.assert_led((), (), FOUR, ((0, (1, 2)), (0, (3, 4))))

    def test_one_atom_of_each_kind(self):
        facts = ((0, (2, 1)), (0, (2, 2)), (1, (0,)), (1, (29,)), (2, ()))
        self.assert_led(((1, 2), (2, 2)), ((1, (1,)), (1, (2,))), ((1, (-1,)), ((0, (-2, -1)),), ()), facts)
        self.assert_led(((0,), (29,)), ((0, (0, 7)), (0, (29, 7))), ((0, (-3, 7)), ((1, (-3,)),), ()), facts)
        self.assert_led(((),), ((1, (7,)),), ((1, (7,)), ((2, ()),), ()), facts)

    def test_a_variable_twice_in_an_atom(self):
        facts = ((0, (1, 2)), (0, (2, 1)), (0, (2, 2)), (0, (3, 3)))
        self.assert_led(((2,), (3,)), ((1, (2,)), (1, (3,))), TWICE, facts)
        known = ((0, (-1, -2)), ((0, (-1, -2)), (0, (-2, -2))), ())
        self.assert_led(((1, 2), (2, 2), (3, 3)), ((0, (1, 2)), (0, (2, 2)), (0, (3, 3))), known, facts)

    def test_things_in_the_body(self):
        facts = ((0, (1, 2)), (0, (1, 3)), (0, (2, 1)), (0, (3, 1)), (1, (1,)))
        self.assert_led(((2,), (3,)), ((1, (2,)), (1, (3,))), ((1, (-1,)), ((0, (1, -1)),), ()), facts)
        self.assert_led(((2,), (3,)), ((1, (2,)), (1, (3,))), ((1, (-1,)), ((0, (-1, 1)), (1, (1,))), ()), facts)
        self.assert_led((), (), ((1, (-1,)), ((0, (-1, 1)), (1, (2,))), ()), facts)
        self.assert_led(((2,),), ((2, ()),), ((2, ()), ((0, (1, 2)), (0, (-1, 1)), (0, (3, 1))), ((-1, 3),)), facts)

    def test_atoms_that_share_variables(self):
        facts = ((0, (1, 2)), (0, (2, 3)), (0, (3, 1)), (1, (2,)))
        self.assert_led(
            ((1, 2, 3), (2, 3, 1), (3, 1, 2)), ((0, (1, 3)), (0, (2, 1)), (0, (3, 2))), STEP, facts,
        )
        both = ((1, (-2,)), ((0, (-1, -2)), (0, (-2, -3)), (1, (-2,))), ())
        self.assert_led(((1, 2, 3),), ((1, (2,)),), both, facts)
        ring = ((2, ()), ((0, (-1, -2)), (0, (-2, -3)), (0, (-3, -1))), ())
        self.assert_led(((1, 2, 3), (2, 3, 1), (3, 1, 2)), ((2, ()),), ring, facts)

    def test_atoms_that_share_none(self):
        rule = ((0, (-1, -2)), ((1, (-2,)), (1, (-1,))), ())
        facts = ((1, (4,)), (1, (5,)))
        pairs = ((4, 4), (4, 5), (5, 4), (5, 5))
        self.assert_led(pairs, tuple((0, pair) for pair in pairs), rule, facts)
        apart = rule[:2] + (((-2, -1),),)
        self.assert_led(pairs[1:3], ((0, (4, 5)), (0, (5, 4))), apart, facts)

    def test_values_are_told_once_though_the_head_has_not_all_of_them(self):
        facts = ((0, (1, 2)), (0, (1, 3)), (0, (4, 2)))
        rule = ((1, (-1,)), ((0, (-1, -2)),), ())
        self.assert_led(((1, 2), (1, 3), (4, 2)), ((1, (1,)), (1, (4,))), rule, facts)
        self.assert_led(((1, 2), (1, 3), (4, 2)), ((2, ()),), ((2, ()),) + rule[1:], facts)

    def test_pairs_of_a_variable_that_the_head_has_not(self):
        facts = ((0, (1, 2)), (0, (1, 3)), (0, (4, 2)), (1, (3,)))
        rule = ((1, (-1,)), ((0, (-1, -2)), (1, (-3,))), ((-3, -2),))
        self.assert_led(((1, 2, 3), (4, 2, 3)), ((1, (1,)), (1, (4,))), rule, facts)
        self.assert_led(((1, 3),), ((1, (1,)),), ((1, (-1,)), ((0, (-1, -2)),), ((-2, 2),)), facts)

    def test_facts_that_are_there_already_are_led_to_as_well(self):
        self.assert_led(((5,),), ((1, (5,)),), ((1, (-1,)), ((1, (-1,)),), ()), ((1, (5,)),))
        self.assert_led(((),), ((2, ()),), ((2, ()), ((2, ()),), ()), ((1, (5,)), (2, ())))

    def test_all_things_at_all_places(self):
        facts = tuple((1, (thing,)) for thing in range(30))
        rule = ((0, (-1, -2)), ((1, (-1,)), (1, (-2,))), ((-2, -1),))
        pairs = tuple(pair for pair in itertools.product(range(30), repeat=2) if pair[0] != pair[1])
        self.assert_led(pairs, tuple((0, pair) for pair in pairs), rule, facts)

    def test_four_variables_in_any_order(self):
        things = (3, 8, 20)
        facts = tuple((0, pair) for pair in itertools.product(things, repeat=2))
        values = tuple(itertools.product(things, repeat=4))
        for terms in itertools.permutations((-1, -2, -3, -4)):
            rule = ((1, terms[:1]), ((0, terms[1:3]), (0, (terms[3], terms[0]))), ())
            self.assert_led(values, tuple((1, (thing,)) for thing in things), rule, facts)

    def test_many_values(self):
        facts = tuple((0, pair) for pair in itertools.product(range(18), repeat=2))
        rule = ((0, (-1, -4)), ((0, (-1, -2)), (0, (-2, -3)), (0, (-3, -4))), ())
        answer = values_for(rule, facts)
        self.assertEqual(answer, tuple(itertools.product(range(18), repeat=4)))
        self.assertEqual(led_by(rule, facts), facts)

    def test_rules_and_facts_at_random(self):
        source = random.Random(6)
        for _ in range(1200):
            kinds = draw_kinds(source)
            rule = draw_rule(source, kinds, (0, 1, 2), source.randint(0, 4))
            facts = draw_facts(source, kinds, (0, 1, 2, 29), source.randint(0, 14))
            with self.subTest(rule=rule, facts=facts):
                self.assertEqual(values_for(rule, facts), plain_values_for(rule, facts))
                self.assertEqual(led_by(rule, facts), plain_led_by(rule, facts))

    def test_values_at_random(self):
        source = random.Random(7)
        for _ in range(1500):
            kinds = draw_kinds(source)
            rule = draw_rule(source, kinds, (0, 1, 9), source.randint(0, 4))
            values = tuple(source.choice((0, 1, 9, 29)) for _ in plain_variables(rule))
            facts = tuple(fact for fact in sorted(set(plain_body(rule, values))) if source.random() < 0.9)
            with self.subTest(rule=rule, values=values):
                self.assertEqual(head_with(rule, values), plain_fact(rule, rule[0], values))
                self.assertEqual(body_with(rule, values), plain_body(rule, values))
                self.assertIs(is_unlike(rule, values), plain_unlike(rule, values))
                there = set(plain_body(rule, values)) <= set(facts)
                self.assertIs(holds(rule, values, facts), plain_unlike(rule, values) and there)

    def test_arguments_by_name(self):
        self.assertEqual(values_for(facts=((0, (1, 1)),), rule=TWICE), ((1,),))
        self.assertEqual(led_by(facts=((0, (1, 1)),), rule=TWICE), ((1, (1,)),))


if __name__ == "__main__":
    unittest.main()
