import unittest

from leadalike.errors import InvalidProgram
from leadalike.programs import known_by_either, known_things, require_program, variables_of
from tests.samples import STRAYS, answer_leaving_arguments, nested_in_lists, nested_in_tuples

# Kinds of 2, 1 and 0 things.
KINDS = (2, 1, 0)
LEAST = ((0, (-4, -4)), ((0, (-4, -4)),), ())
GREATEST = ((2, ()), ((2, ()),), ())
ATOM = (0, (-1, 9))
WRONG_TERMS = (
    -5, -6, 10, 11, 29, 10 ** 50, -10 ** 50, True, False, None, "", "1", (), (1,), [], [1], {}, {1: 1},
    nested_in_tuples(30), nested_in_lists(30),
)
WRONG_ATOMS = STRAYS + (
    (), (0,), (0, (-1, 9), ()), [0, (-1, 9)], (0, [-1, 9]), (0, {-1: 9}), (0, "ab"), (0, None), (0, -1),
    (0, ()), (0, (-1,)), (0, (-1, -1, -1)), (1, ()), (1, (-1, -1)), (2, (-1,)), (2, []), (2, None),
    (-1, ()), (-2, (-1,)), (-3, (-1, 9)), (3, ()), (True, (-1,)), (False, (-1, 9)), (None, ()), ("0", (-1, 9)),
    ((0, (-1, 9)),),
)


class Example(unittest.TestCase):
    def test_the_answers_of_the_document(self):
        rule = ((1, (-1, 7)), ((0, (-2, -1)),), ((-2, -1),))
        self.assertEqual((variables_of(rule), known_things(require_program(((2, 2), (rule,))))), ((-1, -2), (7,)))

    def test_each_function_is_defined_in_its_file(self):
        for call in (require_program, variables_of, known_things, known_by_either):
            self.assertEqual(call.__module__, "leadalike.programs")


class RequireProgram(unittest.TestCase):
    def assert_taken(self, program):
        with self.subTest(program=program):
            self.assertIs(require_program(program), program)

    def assert_wrong(self, part, program):
        with self.subTest(part=part, program=program):
            error = answer_leaving_arguments(self, require_program, program)
            self.assertIs(error.__class__, InvalidProgram)
            self.assertEqual(error.part, part)
            self.assertIs(error.part.__class__, part.__class__)

    def assert_rule(self, rule):
        self.assert_taken((KINDS, (rule,)))

    def assert_no_rule(self, rule):
        self.assert_wrong(0, (KINDS, (rule,)))
        self.assert_wrong(1, (KINDS, (LEAST, rule, GREATEST)))
        self.assert_wrong(1, (KINDS, (LEAST, rule, None)))


class WholePrograms(RequireProgram):
    def test_without_rules(self):
        for kinds in ((0,), (1,), (2,), (0, 1, 2), (2, 1, 0, 0, 1, 2)):
            self.assert_taken((kinds, ()))

    def test_with_as_many_rules_as_there_may_be(self):
        rules = tuple(((1, (thing,)), (), ()) for thing in range(6))
        for many in range(7):
            self.assert_taken((KINDS, rules[:many]))

    def test_what_is_no_pair(self):
        pair = (KINDS, (LEAST,))
        for value in STRAYS + ((), (KINDS,), (KINDS, (), ()), ((KINDS, ()),), list(pair), {KINDS: (), (): ()}):
            if not (isinstance(value, tuple) and len(value) == 2):
                self.assert_wrong(None, value)

    def test_what_are_no_kinds(self):
        for kinds in STRAYS + (
            (), (0,) * 7, (2,) * 7, [2, 1, 0], {2: 2}, "21", 2, None, (3,), (0, 3), (3, 0), (1, 2, 3, 0), (-1,),
            (0, -1), (True,), (False,), (1, True), (False, 0), (None,), ("1",), ((1,),), ([1],), (2, ()), (10 ** 50,),
        ):
            self.assert_wrong("kinds", (kinds, ()))

    def test_kinds_are_looked_at_before_rules(self):
        self.assert_wrong("kinds", ((3,), None))
        self.assert_wrong("kinds", ((), (None,)))
        self.assert_wrong("kinds", ((0,) * 7, (None,) * 7))

    def test_what_are_no_rules(self):
        for rules in (
            None, True, 0, "", "ab", [], [LEAST], {}, {LEAST: True}, nested_in_lists(30), (None,) * 7,
            tuple(((1, (thing,)), (), ()) for thing in range(7)), (LEAST,) * 7, (None,) * 100000,
        ):
            self.assert_wrong("rules", (KINDS, rules))

    def test_six_that_are_none(self):
        self.assert_wrong(0, (KINDS, (None,) * 6))

    def test_equal_rules(self):
        self.assert_wrong(1, (KINDS, (LEAST, LEAST)))
        self.assert_wrong(2, (KINDS, (LEAST, GREATEST, GREATEST)))

    def test_rules_out_of_their_order(self):
        self.assert_wrong(1, (KINDS, (GREATEST, LEAST)))
        rows = [((1, (thing,)), (), ()) for thing in (0, 1, 2, 3, 4, 5)]
        for index in range(1, 6):
            turned = rows[:index - 1] + [rows[index], rows[index - 1]] + rows[index + 1:]
            self.assert_wrong(index, (KINDS, tuple(turned)))

    def test_a_rule_that_is_less_than_an_earlier_one_only(self):
        rows = [((1, (thing,)), (), ()) for thing in (1, 3, 2, 3)]
        self.assert_wrong(2, (KINDS, tuple(rows)))

    def test_order_by_body_and_by_pairs(self):
        short = ((2, ()), ((0, (-2, -1)),), ())
        long = ((2, ()), ((0, (-2, -1)), (2, ())), ())
        apart = ((2, ()), ((0, (-2, -1)),), ((-2, -1),))
        self.assert_taken((KINDS, (short, apart, long)))
        self.assert_wrong(1, (KINDS, (long, short)))
        self.assert_wrong(1, (KINDS, (apart, short)))
        self.assert_wrong(2, (KINDS, (short, long, apart)))

    def test_the_first_wrong_rule_of_several(self):
        self.assert_wrong(1, (KINDS, (GREATEST, LEAST, None)))
        self.assert_wrong(1, (KINDS, (GREATEST, None, LEAST)))
        self.assert_wrong(0, (KINDS, (None, GREATEST, LEAST)))

    def test_the_kinds_matter(self):
        rule = ((1, (-1,)), ((0, (-1, 3)),), ())
        self.assert_taken(((2, 1), (rule,)))
        for kinds in ((2,), (2, 2), (2, 0), (1, 1), (0, 1)):
            self.assert_wrong(0, (kinds, (rule,)))

    def test_a_list_at_any_depth(self):
        rule = ((1, (-1,)), ((0, (-2, -1)), (1, (-2,))), ((-2, -1), (-1, 3)))
        self.assert_rule(rule)
        head, body, unlike = rule
        self.assert_wrong(None, [KINDS, (rule,)])
        self.assert_wrong("kinds", (list(KINDS), (rule,)))
        self.assert_wrong("rules", (KINDS, [rule]))
        for wrong in (
            [head, body, unlike], (list(head), body, unlike), ((1, [-1]), body, unlike), (head, list(body), unlike),
            (head, ([0, (-2, -1)], (1, (-2,))), unlike), (head, ((0, (-2, -1)), (1, [-2])), unlike),
            (head, body, list(unlike)), (head, body, ([-2, -1], (-1, 3))), (head, body, ((-2, -1), [-1, 3])),
        ):
            self.assert_no_rule(wrong)

    def test_true_and_false_at_any_depth(self):
        rule = ((1, (1,)), ((0, (0, -1)), (1, (1,))), ((-1, 0), (-1, 1)))
        self.assert_rule(rule)
        head, body, unlike = rule
        self.assert_wrong("kinds", ((2, True, 0), (rule,)))
        self.assert_wrong("kinds", ((2, 1, False), (rule,)))
        for wrong in (
            ((True, (1,)), body, unlike), ((1, (True,)), body, unlike), (head, ((False, (0, -1)), (1, (1,))), unlike),
            (head, ((0, (False, -1)), (1, (1,))), unlike), (head, ((0, (0, -1)), (True, (1,))), unlike),
            (head, ((0, (0, -1)), (1, (True,))), unlike), (head, body, ((-1, False), (-1, 1))),
            (head, body, ((-1, 0), (-1, True))), (head, body, ((False, 1),)), (head, body, ((0, True),)),
        ):
            self.assert_no_rule(wrong)

    def test_arguments_by_name(self):
        self.assertEqual(require_program(value=((1,), ())), ((1,), ()))
        self.assertRaises(InvalidProgram, require_program, value=None)


class SingleRules(RequireProgram):
    def test_rules_of_several_forms(self):
        for rule in (
            ((2, ()), (), ()), ((1, (0,)), (), ()), ((1, (9,)), (), ()), ((0, (0, 9)), (), ()),
            ((0, (-1, -4)), ((0, (-4, -1)),), ()), ((0, (-1, 5)), ((1, (-2,)), (2, ()), (1, (-1,))), ()),
            ((2, ()), ((0, (-1, -2)), (0, (-3, -4)), (2, ())), ((-4, -3), (-2, -1), (-1, 9))),
            ((2, ()), (), ((0, 9),)), ((2, ()), (), ((3, 5), (3, 6), (4, 5))), LEAST, GREATEST,
        ):
            self.assert_rule(rule)

    def test_every_term_at_each_place(self):
        for term in range(-4, 10):
            atom = (1, (term,))
            self.assert_rule(((2, ()), (atom,), ()))
            self.assert_rule((atom, (atom,), ()))
            if term < 9:
                self.assert_rule(((2, ()), (atom,), ((term, 9),)))

    def test_what_is_no_triple(self):
        atoms = (ATOM, (ATOM,))
        for wrong in STRAYS + ((), (ATOM,), atoms, (*atoms, (), ()), [*atoms, ()], ((*atoms, ()),)):
            self.assert_no_rule(wrong)
        self.assert_no_rule({ATOM: 1, 0: 2, 1: 3})

    def test_what_is_no_head(self):
        for wrong in WRONG_ATOMS:
            self.assert_no_rule((wrong, (ATOM,), ()))

    def test_what_is_no_atom_at_each_place_of_the_body(self):
        for wrong in WRONG_ATOMS:
            self.assert_no_rule(((2, ()), (wrong,), ()))
            self.assert_no_rule(((2, ()), (wrong, ATOM, ATOM), ()))
            self.assert_no_rule(((2, ()), (ATOM, wrong, ATOM), ()))
            self.assert_no_rule(((2, ()), (ATOM, ATOM, wrong), ()))

    def test_what_is_no_body(self):
        for wrong in (None, True, 0, "", "ab", [], [ATOM], {}, {ATOM: 1}, ATOM, (ATOM,) * 4, (None,) * 1000):
            self.assert_no_rule(((2, ()), wrong, ()))

    def test_as_many_atoms_as_there_may_be(self):
        for many in range(4):
            self.assert_rule(((2, ()), (ATOM,) * many, ()))
        self.assert_no_rule(((2, ()), (ATOM,) * 4, ()))

    def test_an_atom_may_stand_twice_and_in_any_order(self):
        other = (0, (-2, -1))
        for body in ((ATOM, ATOM), (ATOM, other, ATOM), (other, ATOM), (ATOM, other), (other, other, other)):
            self.assert_rule(((0, (-1, 9)), body, ()))

    def test_what_is_no_term(self):
        for wrong in WRONG_TERMS:
            for atom in ((0, (wrong, -1)), (0, (-1, wrong)), (1, (wrong,))):
                self.assert_no_rule((atom, (ATOM,), ()))
                self.assert_no_rule(((2, ()), (atom, ATOM), ()))
            self.assert_no_rule(((2, ()), (ATOM,), ((wrong, 9),)))
            self.assert_no_rule(((2, ()), (ATOM,), ((-1, wrong),)))
            self.assert_no_rule(((2, ()), (ATOM,), ((-1, 2), (3, wrong))))

    def test_what_are_no_pairs(self):
        for wrong in (None, True, 0, "", "ab", [], [(-1, 3)], {}, {(-1, 3): 1}, (-1, 3), ((), ()), (None,) * 1000):
            self.assert_no_rule(((2, ()), (ATOM,), wrong))

    def test_what_is_no_pair_of_terms(self):
        for wrong in STRAYS + ((), (-1,), (-1, 2, 3), [-1, 3], ((-1, 3),), "ab"):
            self.assert_no_rule(((2, ()), (ATOM,), (wrong,)))
            self.assert_no_rule(((2, ()), (ATOM,), ((-1, 2), wrong)))

    def test_four_pairs(self):
        pairs = ((-1, 0), (-1, 1), (-1, 2), (-1, 3))
        for many in range(4):
            self.assert_rule(((2, ()), (ATOM,), pairs[:many]))
        self.assert_no_rule(((2, ()), (ATOM,), pairs))

    def test_pairs_out_of_order(self):
        for pairs in (
            ((-1, 1), (-1, 0)), ((-1, 1), (-1, 1)), ((0, 1), (-1, 5)), ((-1, 0), (-1, 2), (-1, 1)),
            ((-1, 0), (-1, 0), (-1, 1)), ((-1, 2), (-1, 0), (-1, 1)),
        ):
            self.assert_no_rule(((2, ()), (ATOM,), pairs))

    def test_a_pair_whose_first_term_is_not_less(self):
        for pair in ((3, 3), (0, 0), (-1, -1), (4, 3), (3, -1), (0, -1), (-1, -2), (9, 0)):
            self.assert_no_rule(((2, ()), ((0, (-1, -2)),), (pair,)))
            self.assert_no_rule(((2, ()), ((0, (-1, -2)),), ((-2, -1), pair)))

    def test_variables_of_the_head_stand_in_the_body(self):
        self.assert_rule(((0, (-1, -2)), ((1, (-2,)), (2, ()), (1, (-1,))), ()))
        for body in ((), ((2, ()),), ((1, (3,)),), ((1, (-2,)),), ((1, (-2,)), (0, (-3, -4)))):
            self.assert_no_rule(((1, (-1,)), body, ()))
            self.assert_no_rule(((0, (3, -1)), body, ()))
            self.assert_no_rule(((0, (-1, 3)), body, ()))
        self.assert_no_rule(((0, (-1, -1)), (), ()))

    def test_variables_of_the_pairs_stand_in_the_body(self):
        self.assert_rule(((2, ()), ((1, (-2,)), (2, ()), (1, (-1,))), ((-2, -1), (-1, 3))))
        for pairs in (((-2, -1),), ((-3, -2),), ((-2, 3),), ((-1, 4), (-2, 4)), ((-1, 3), (-1, 4), (-2, 5))):
            self.assert_no_rule(((2, ()), ((1, (-1,)),), tuple(sorted(pairs))))
            self.assert_no_rule(((1, (-1,)), ((0, (-1, -1)), (1, (3,))), tuple(sorted(pairs))))

    def test_a_variable_in_head_and_pair_alone(self):
        self.assert_no_rule(((1, (-2,)), ((1, (-1,)),), ((-2, -1),)))
        self.assert_no_rule(((1, (-2,)), (), ((-2, 3),)))


class VariablesOf(unittest.TestCase):
    def assert_variables(self, expected, rule):
        with self.subTest(rule=rule):
            require_program((KINDS, (rule,)))
            answer = answer_leaving_arguments(self, variables_of, rule)
            self.assertEqual(answer, expected)
            self.assertIs(answer.__class__, tuple)

    def test_rules_without_variables(self):
        self.assert_variables((), ((2, ()), (), ()))
        self.assert_variables((), ((0, (1, 2)), ((2, ()), (1, (3,))), ((4, 5),)))

    def test_variables_in_any_order(self):
        for body in (
            ((0, (-1, -2)), (0, (-3, -4))), ((0, (-4, -3)), (0, (-2, -1))), ((0, (-3, -1)), (0, (-4, -2))),
            ((0, (-2, -4)), (0, (-1, -3)), (0, (-4, -4))),
        ):
            self.assert_variables((-1, -2, -3, -4), ((2, ()), body, ()))

    def test_some_of_the_variables(self):
        self.assert_variables((-1,), ((2, ()), ((1, (-1,)),), ()))
        self.assert_variables((-4,), ((2, ()), ((0, (-4, -4)), (1, (-4,))), ()))
        self.assert_variables((-2, -3), ((2, ()), ((0, (-3, 5)), (1, (-2,))), ()))
        self.assert_variables((-1, -4), ((2, ()), ((1, (0,)), (0, (-4, -1))), ()))

    def test_the_head_and_the_pairs_add_none_and_give_no_order(self):
        self.assert_variables((-1, -2, -3), ((0, (-3, -1)), ((0, (-2, -3)), (1, (-1,))), ((-3, -2), (-2, -1))))

    def test_arguments_by_name(self):
        self.assertEqual(variables_of(rule=LEAST), (-4,))


class KnownThings(unittest.TestCase):
    def assert_known(self, expected, *rules):
        program = require_program((KINDS, rules))
        with self.subTest(program=program):
            answer = answer_leaving_arguments(self, known_things, program)
            self.assertEqual(answer, expected)
            self.assertIs(answer.__class__, tuple)

    def test_programs_without_rules_or_things(self):
        self.assert_known(())
        self.assert_known((), LEAST)
        self.assert_known((), LEAST, ((1, (-1,)), ((0, (-1, -2)),), ((-2, -1),)), GREATEST)

    def test_things_in_the_head(self):
        self.assert_known((0,), ((1, (0,)), (), ()))
        self.assert_known((3, 9), ((0, (9, 3)), ((1, (-1,)),), ()))

    def test_things_in_the_body(self):
        self.assert_known((4,), ((2, ()), ((1, (4,)),), ()))
        self.assert_known((0, 5, 8), ((2, ()), ((1, (8,)), (0, (-1, 5)), (1, (0,))), ()))

    def test_things_in_the_pairs(self):
        self.assert_known((7,), ((2, ()), ((1, (-1,)),), ((-1, 7),)))
        self.assert_known((0, 2, 6), ((2, ()), ((1, (-1,)),), ((-1, 2), (0, 6))))

    def test_things_of_all_places_and_rules_once_each_ascending(self):
        self.assert_known(
            (1, 2, 3, 5, 6, 9),
            ((0, (-1, 9)), ((0, (3, -1)), (1, (9,))), ((-1, 2),)),
            ((1, (5,)), ((1, (-2,)),), ((-2, 6), (1, 3))),
            ((1, (6,)), (), ()),
        )

    def test_the_kinds_are_no_things(self):
        self.assertEqual(known_things(((0, 1, 2), (((2, (3, 3)), (), ()),))), (3,))

    def test_arguments_by_name(self):
        self.assertEqual(known_things(program=(KINDS, ())), ())


class KnownByEither(unittest.TestCase):
    def assert_known(self, expected, one, other):
        for first, second in ((one, other), (other, one)):
            with self.subTest(first=first, second=second):
                answer = answer_leaving_arguments(self, known_by_either, first, second)
                self.assertEqual(answer, expected)
                self.assertIs(answer.__class__, tuple)

    def test_programs_without_rules(self):
        self.assert_known((), (KINDS, ()), (KINDS, ()))
        self.assert_known((4,), (KINDS, ()), (KINDS, (((1, (4,)), (), ()),)))

    def test_things_of_both(self):
        one = (KINDS, (((0, (9, -1)), ((1, (-1,)),), ((-1, 2),)), ((1, (5,)), (), ())))
        other = (KINDS, (((2, ()), ((0, (5, 0)), (1, (3,))), ((2, 7),)),))
        self.assert_known((0, 2, 3, 5, 7, 9), one, other)
        self.assert_known((2, 5, 9), one, one)
        self.assert_known((2, 5, 9), one, (KINDS, (LEAST,)))

    def test_all_things(self):
        rows = [((1, (thing,)), (), ()) for thing in range(10)]
        self.assert_known(tuple(range(10)), (KINDS, tuple(rows[:5])), (KINDS, tuple(rows[5:])))

    def test_arguments_by_name(self):
        self.assertEqual(known_by_either(other=(KINDS, ()), one=(KINDS, (((1, (4,)), (), ()),))), (4,))


if __name__ == "__main__":
    unittest.main()
