import itertools
import random
import unittest

from leadalike.programs import require_program
from leadalike.putting import head_with
from leadalike.reasons import is_reason, reason_for
from leadalike.rounds import model
from tests.plainly import plain_is_reason, plain_rounds
from tests.randomly import altered, draw_facts, draw_kinds, draw_program
from tests.samples import STRAYS, answer_leaving_arguments, nested_in_lists, nested_in_tuples

CLOSURE = ((2,), (((0, (-1, -3)), ((0, (-1, -2)), (0, (-2, -3))), ()),))
# A rule with an empty body, one without variables, one with pairs, and a recursive one.
MIXED = ((2, 1, 0), (
    ((0, (-2, -1)), ((0, (-1, -2)),), ((-2, -1), (-1, 7))),
    ((0, (-1, -3)), ((0, (-1, -2)), (0, (-2, -3))), ()),
    ((1, (4,)), (), ()),
    ((2, ()), ((0, (2, 1)), (1, (4,))), ((0, 9),)),
))
GIVEN = ((0, (1, 2)),)
# The entries 0 and 1 may change places; the last one needs both.
RIGHT = ((0, (1, 2)), (2, ()), (3, ()))
WRONG_INTEGERS = (
    -1, -2, -30, 30, 10 ** 50, True, False, None, "", "1", (), (1,), [], [1], {}, {1: 1},
    nested_in_tuples(30), nested_in_lists(30),
)


class Example(unittest.TestCase):
    def test_the_answers_of_the_document(self):
        facts = ((0, (1, 2)), (0, (2, 3)))
        self.assertEqual(
            (
                reason_for(CLOSURE, facts, (0, (1, 3))), reason_for(CLOSURE, facts, (0, (3, 1))),
                is_reason(CLOSURE, facts, (0, (2, 3)), ()),
            ),
            (((0, (1, 2, 3)),), None, True),
        )

    def test_each_function_is_defined_in_its_file(self):
        for call in (reason_for, is_reason):
            self.assertEqual(call.__module__, "leadalike.reasons")


class ReasonFor(unittest.TestCase):
    def assert_reason(self, program, facts, fact):
        with self.subTest(program=program, facts=facts, fact=fact):
            entries = answer_leaving_arguments(self, reason_for, program, facts, fact)
            self.assertTrue(plain_is_reason(program, facts, fact, entries), entries)
            self.assertIs(is_reason(program, facts, fact, entries), True)
            heads = [head_with(program[1][index], values) for index, values in entries]
            self.assertEqual(len(set(heads)), len(heads))
            self.assertEqual(entries == (), fact in facts)
            return entries

    def assert_none(self, program, facts, fact):
        with self.subTest(program=program, facts=facts, fact=fact):
            self.assertIsNone(answer_leaving_arguments(self, reason_for, program, facts, fact))

    def test_a_given_fact(self):
        self.assertEqual(self.assert_reason(CLOSURE, GIVEN, (0, (1, 2))), ())
        self.assertEqual(self.assert_reason(((1,), ()), ((0, (3,)),), (0, (3,))), ())

    def test_a_given_fact_to_which_a_rule_leads_as_well(self):
        facts = ((0, (1, 2)), (0, (1, 3)), (0, (2, 3)))
        self.assertEqual(self.assert_reason(CLOSURE, facts, (0, (1, 3))), ())
        self.assertEqual(self.assert_reason(MIXED, ((1, (4,)),), (1, (4,))), ())

    def test_a_rule_with_an_empty_body(self):
        self.assertEqual(self.assert_reason(MIXED, (), (1, (4,))), ((2, ()),))

    def test_a_fact_that_needs_several_entries(self):
        entries = self.assert_reason(MIXED, GIVEN, (2, ()))
        self.assertIn(entries, (RIGHT, (RIGHT[1], RIGHT[0], RIGHT[2])))

    def test_facts_that_are_not_in_the_model(self):
        self.assert_none(((1,), ()), (), (0, (3,)))
        self.assert_none(CLOSURE, GIVEN, (0, (2, 1)))
        self.assert_none(CLOSURE, (), (0, (1, 1)))
        self.assert_none(MIXED, ((0, (7, 2)),), (0, (2, 7)))
        self.assert_none(MIXED, (), (2, ()))

    def test_a_long_path(self):
        facts = tuple((0, (thing, thing + 1)) for thing in range(29))
        for low, high in itertools.combinations(range(30), 2):
            self.assertEqual(len(self.assert_reason(CLOSURE, facts, (0, (low, high)))), high - low - 1)
        self.assert_none(CLOSURE, facts, (0, (1, 0)))

    def test_a_step_at_a_time(self):
        program = ((2, 2), (((1, (-1, -3)), ((1, (-1, -2)), (0, (-2, -3))), ()),))
        facts = tuple((0, (thing, thing + 1)) for thing in range(29)) + ((1, (0, 0)),)
        self.assertEqual(
            self.assert_reason(program, facts, (1, (0, 29))), tuple((0, (0, thing, thing + 1)) for thing in range(29)),
        )

    def test_a_reason_with_very_many_entries(self):
        # The kinds 0 to 2 count up together; a fact of the kind 3 tells the next thing, one of the kind 4 the last.
        rules = tuple(sorted(
            [((kind + 1, (-1, -2)), ((kind, (-1, -2)),), ()) for kind in range(2)]
            + [
                ((0, (-1, -3)), ((2, (-1, -2)), (3, (-2, -3))), ()),
                ((0, (-3, 0)), ((2, (-1, -2)), (3, (-1, -3)), (4, (-2,))), ()),
            ]
        ))
        program = require_program(((2, 2, 2, 2, 1), rules))
        facts = ((0, (0, 0)),) + tuple((3, (thing, thing + 1)) for thing in range(29)) + ((4, (29,)),)
        entries = reason_for(program, facts, (2, (29, 29)))
        self.assertEqual(len(entries), 2699)
        self.assertIs(is_reason(program, facts, (2, (29, 29)), entries), True)
        self.assertIs(is_reason(program, facts, (2, (29, 29)), entries[1:]), False)
        self.assertIs(is_reason(program, facts, (2, (29, 29)), entries[:-1]), False)

    def test_programs_and_facts_at_random(self):
        source = random.Random(9)
        lengths = set()
        for _ in range(300):
            kinds = draw_kinds(source)
            program = draw_program(source, kinds, (0, 1, 2), source.randint(0, 4))
            facts = draw_facts(source, kinds, (0, 1, 2, 17), source.randint(0, 7))
            held = plain_rounds(program, facts)[-1]
            for fact in held:
                lengths.add(len(self.assert_reason(program, facts, fact)))
            for fact in draw_facts(source, kinds, (0, 1, 2, 17, 29), 5):
                if fact not in held:
                    self.assert_none(program, facts, fact)
        self.assertTrue({0, 1, 2, 3} <= lengths)

    def test_arguments_by_name(self):
        self.assertEqual(reason_for(fact=(1, (4,)), facts=(), program=MIXED), ((2, ()),))
        self.assertIs(is_reason(entries=((2, ()),), fact=(1, (4,)), facts=(), program=MIXED), True)


class IsReason(unittest.TestCase):
    def assert_is(self, expected, entries, fact=(2, ()), facts=GIVEN, program=MIXED):
        with self.subTest(program=program, facts=facts, fact=fact, entries=repr(entries)[:200]):
            self.assertIs(answer_leaving_arguments(self, is_reason, program, facts, fact, entries), expected)

    def test_right_reasons(self):
        self.assert_is(True, RIGHT)
        self.assert_is(True, (RIGHT[1], RIGHT[0], RIGHT[2]))
        self.assert_is(True, RIGHT[:1], (0, (2, 1)))
        self.assert_is(True, RIGHT[1:2], (1, (4,)))
        self.assert_is(True, RIGHT[1:2], (1, (4,)), ())

    def test_entries_that_are_not_needed_or_doubled(self):
        self.assert_is(True, (RIGHT[0], RIGHT[0], RIGHT[1], RIGHT[1], RIGHT[2], RIGHT[2]))
        self.assert_is(True, RIGHT + RIGHT)
        self.assert_is(True, ((1, (1, 2, 1)), *RIGHT), facts=((0, (1, 2)), (0, (2, 1))))
        # A given fact may be led to, too.
        self.assert_is(True, RIGHT[1:2], (1, (4,)), ((1, (4,)),))

    def test_no_entries(self):
        self.assert_is(True, (), (0, (1, 2)))
        self.assert_is(False, (), (2, ()))
        self.assert_is(False, (), (1, (4,)), ())
        self.assert_is(False, [], (0, (1, 2)))
        self.assert_is(False, None, (0, (1, 2)))
        self.assert_is(False, "", (0, (1, 2)))
        self.assert_is(False, {}, (0, (1, 2)))

    def test_the_fact_is_the_head_of_the_last_entry(self):
        self.assert_is(False, RIGHT, (1, (4,)))
        self.assert_is(False, (*RIGHT, RIGHT[0]))
        self.assert_is(False, RIGHT[:2])
        # Not enough that it is given.
        self.assert_is(False, RIGHT, (0, (1, 2)))

    def test_an_entry_left_out(self):
        for index in range(3):
            self.assert_is(False, RIGHT[:index] + RIGHT[index + 1:])

    def test_entries_exchanged(self):
        self.assert_is(False, (RIGHT[2], RIGHT[1], RIGHT[0]))
        self.assert_is(False, (RIGHT[0], RIGHT[2], RIGHT[1]))
        self.assert_is(False, (RIGHT[2], RIGHT[0], RIGHT[1], RIGHT[2]))

    def test_a_head_that_comes_later_or_is_its_own(self):
        loop = ((1,), (((0, (-1,)), ((0, (-1,)),), ()),))
        self.assert_is(False, ((0, (5,)),), (0, (5,)), (), loop)
        self.assert_is(True, ((0, (5,)),), (0, (5,)), ((0, (5,)),), loop)
        self.assert_is(False, ((0, (5,)),) * 2, (0, (5,)), ((0, (6,)),), loop)

    def test_fewer_facts(self):
        self.assert_is(False, RIGHT, facts=())
        self.assert_is(False, RIGHT, facts=((0, (1, 3)),))

    def test_pairs_that_are_not_unlike(self):
        facts = ((0, (1, 1)), (0, (3, 7)), (0, (7, 3)))
        self.assert_is(False, ((0, (1, 1)),), (0, (1, 1)), facts)
        self.assert_is(False, ((0, (7, 3)),), (0, (3, 7)), facts)
        self.assert_is(True, ((0, (3, 7)),), (0, (7, 3)), facts)
        self.assert_is(False, ((0, (1, 1)), (0, (3, 7))), (0, (7, 3)), facts)

    def test_what_is_no_tuple_of_entries(self):
        for value in STRAYS:
            self.assert_is(False, value)
            self.assert_is(False, value, (0, (2, 2)))
        for value in (list(RIGHT), {entry: entry for entry in RIGHT}, RIGHT[0], nested_in_tuples(39), "abc"):
            self.assert_is(False, value)

    def test_a_list_at_any_depth(self):
        self.assert_is(False, (list(RIGHT[0]), *RIGHT[1:]))
        self.assert_is(False, ((0, [1, 2]), *RIGHT[1:]))
        self.assert_is(False, (RIGHT[0], (2, []), RIGHT[2]))
        self.assert_is(False, RIGHT[:2] + ([3, ()],))

    def test_true_and_false_for_integers(self):
        self.assert_is(False, ((False, (1, 2)), *RIGHT[1:]))
        self.assert_is(False, ((0, (True, 2)), *RIGHT[1:]))
        ones = ((0, (0, 1)), (0, (1, 0)))
        self.assert_is(True, ((1, (0, 1, 0)),), (0, (0, 0)), ones)
        self.assert_is(False, ((True, (0, 1, 0)),), (0, (0, 0)), ones)
        self.assert_is(False, ((1, (False, 1, 0)),), (0, (0, 0)), ones)
        self.assert_is(False, ((1, (0, True, 0)),), (0, (0, 0)), ones)
        self.assert_is(False, ((1, (0, 1, False)),), (0, (0, 0)), ones)

    def test_wrong_lengths(self):
        for entry in ((), (0,), (0, (1, 2), ()), (0, 1, 2), ((0, (1, 2)),), (0, ()), (0, (1,)), (0, (1, 2, 1))):
            self.assert_is(False, (entry, *RIGHT[1:]))
        for entry in ((2,), (2, (), ()), (2, (1,)), (2, ((),))):
            self.assert_is(False, (RIGHT[0], entry, RIGHT[2]))

    def test_wrong_indices(self):
        for wrong in WRONG_INTEGERS + (4, 5, -4, -3):
            self.assert_is(False, ((wrong, (1, 2)), *RIGHT[1:]))
            self.assert_is(False, (RIGHT[0], (wrong, ()), RIGHT[2]))
            self.assert_is(False, RIGHT[:2] + ((wrong, ()),))
        self.assert_is(False, ((0, ()),), (0, (1, 2)), GIVEN, ((2,), ()))

    def test_wrong_values(self):
        for wrong in WRONG_INTEGERS + (3, 29):
            self.assert_is(False, ((0, (wrong, 2)), *RIGHT[1:]))
            self.assert_is(False, ((0, (1, wrong)), *RIGHT[1:]))
        for wrong in (None, 1, True, "ab", "", {}, {1: 1, 2: 2}, nested_in_tuples(30), nested_in_lists(30)):
            self.assert_is(False, ((0, wrong), *RIGHT[1:]))

    def test_values_beyond_all_things_in_a_rule_whose_facts_are_not_asked_for(self):
        # Each fact of the body is there but the values are no things: there are no such facts.
        for wrong in (30, -1, 10 ** 50, True):
            self.assert_is(False, ((0, (wrong,)),), (0, ()), ((1, (1,)),), ((0, 1), (((0, ()), ((1, (-1,)),), ()),)))

    def test_at_most_5400_entries(self):
        loop = ((1,), (((0, (-1,)), ((0, (-1,)),), ()),))
        facts = ((0, (5,)),)
        entry = (0, (5,))
        self.assert_is(True, (entry,) * 5400, (0, (5,)), facts, loop)
        self.assert_is(False, (entry,) * 5401, (0, (5,)), facts, loop)
        self.assertIs(is_reason(loop, facts, (0, (5,)), (entry,) * 1000000), False)
        self.assertIs(is_reason(loop, facts, (0, (5,)), (0,) * 1000000), False)
        self.assertIs(is_reason(loop, facts, (0, (5,)), ((0, (5,) * 900000),)), False)

    def test_reasons_that_were_altered(self):
        source = random.Random(10)
        seen = set()
        for _ in range(250):
            kinds = draw_kinds(source)
            program = draw_program(source, kinds, (0, 1), source.randint(0, 3))
            facts = draw_facts(source, kinds, (0, 1, 17), source.randint(0, 5))
            for fact in model(program, facts)[:12]:
                entries = reason_for(program, facts, fact)
                for _ in range(12):
                    value = altered(source, entries)
                    expected = plain_is_reason(program, facts, fact, value)
                    seen.add((expected, len(entries) > 0))
                    with self.subTest(program=program, facts=facts, fact=fact, value=value):
                        self.assertIs(is_reason(program, facts, fact, value), expected)
        self.assertEqual(len(seen), 4)


if __name__ == "__main__":
    unittest.main()
