import itertools
import unittest

from leadalike.errors import InvalidFacts
from leadalike.facts import are_among, is_fact, require_facts
from tests.samples import STRAYS, answer_leaving_arguments, nested_in_lists, nested_in_tuples

# Kinds of 2, 1 and 0 things.
KINDS = (2, 1, 0)
ALL_FACTS = tuple(
    (kind, things) for kind in range(6) for things in itertools.product(range(30), repeat=2)
)
WRONG_INTEGERS = (
    -1, -2, -30, 30, 31, 10 ** 50, -10 ** 50, True, False, None, "", "3", (), (3,), [], [3], {}, {3: 3},
    nested_in_tuples(38), nested_in_lists(38),
)


class Example(unittest.TestCase):
    def test_the_answers_of_the_document(self):
        self.assertEqual(
            (is_fact((2, 0), (0, (3, 29))), is_fact((2, 0), (1, (3,))), are_among(((1, ()),), ((0, (1, 2)), (1, ())))),
            (True, False, True),
        )

    def test_each_function_is_defined_in_its_file(self):
        for call in (is_fact, require_facts, are_among):
            self.assertEqual(call.__module__, "leadalike.facts")


class IsFact(unittest.TestCase):
    def assert_facts(self, expected, kinds, values):
        for value in values:
            with self.subTest(kinds=kinds, value=value):
                self.assertIs(answer_leaving_arguments(self, is_fact, kinds, value), expected)

    def test_facts_of_each_kind(self):
        self.assert_facts(True, KINDS, ((0, (3, 4)), (0, (4, 3)), (0, (5, 5)), (1, (6,)), (2, ())))

    def test_the_bounds_of_things(self):
        self.assert_facts(True, KINDS, ((0, (0, 29)), (0, (29, 0)), (0, (0, 0)), (1, (0,)), (1, (29,))))
        self.assert_facts(False, KINDS, ((0, (0, 30)), (0, (30, 0)), (1, (30,))))
        self.assert_facts(False, KINDS, ((0, (-1, 0)), (0, (0, -1)), (1, (-1,))))

    def test_every_thing(self):
        self.assert_facts(True, (1,), [(0, (thing,)) for thing in range(30)])

    def test_the_bounds_of_kinds(self):
        self.assert_facts(True, (0,), ((0, ()),))
        self.assert_facts(False, (0,), ((1, ()), (-1, ())))
        self.assert_facts(True, (0,) * 6, ((0, ()), (5, ())))
        self.assert_facts(False, (0,) * 6, ((6, ()), (-1, ()), (-6, ()), (10 ** 50, ())))

    def test_what_is_no_kind(self):
        wrong = (-1, -2, -3, 3, 4, True, False, None, "0", (), (0,), [0], {}, nested_in_tuples(39))
        for things in ((), (1,), (1, 2)):
            self.assert_facts(False, KINDS, [(kind, things) for kind in wrong])

    def test_true_and_false_are_no_kinds_of_two_things(self):
        self.assert_facts(False, (2, 2), ((False, (1, 2)), (True, (1, 2))))

    def test_what_is_no_thing(self):
        for wrong in WRONG_INTEGERS:
            self.assert_facts(False, KINDS, ((0, (wrong, 1)), (0, (1, wrong)), (0, (wrong, wrong)), (1, (wrong,))))

    def test_too_many_or_too_few_things(self):
        self.assert_facts(False, KINDS, ((0, ()), (0, (1,)), (0, (1, 2, 3)), (1, ()), (1, (1, 2)), (2, (1,))))

    def test_too_many_or_too_few_parts(self):
        self.assert_facts(False, KINDS, ((), (0,), ((1, 2),), (0, 1, 2), (0, (1, 2), ()), (2, (), ()), (2,)))

    def test_things_in_what_is_no_tuple(self):
        wrong = ([1, 2], [], [1], {1: 1, 2: 2}, {}, "ab", "a", "", None, 3, True, False, nested_in_lists(39))
        for kind in range(3):
            self.assert_facts(False, KINDS, [(kind, things) for things in wrong])

    def test_what_is_no_pair(self):
        self.assert_facts(False, KINDS, STRAYS)
        self.assert_facts(False, KINDS, ([2, ()], [1, (3,)], {2: ()}, {2: (), 1: ()}, ((0, (1, 2)),)))

    def test_each_of_all_candidates(self):
        right = [(0, (0, 29)), (0, (29, 0)), (0, (0, 0)), (0, (29, 29)), (1, (0,)), (1, (29,)), (2, ())]
        for kind in range(-1, 4):
            for many in range(4):
                for things in itertools.product((-1, 0, 29, 30), repeat=many):
                    value = (kind, things)
                    self.assert_facts(value in right, KINDS, (value,))

    def test_arguments_by_name(self):
        self.assertIs(is_fact(kinds=(1,), value=(0, (7,))), True)
        self.assertIs(is_fact(value=(0, (30,)), kinds=(1,)), False)


class RequireFacts(unittest.TestCase):
    def assert_wrong(self, index, kinds, value):
        with self.subTest(kinds=kinds, index=index):
            error = answer_leaving_arguments(self, require_facts, kinds, value)
            self.assertIs(error.__class__, InvalidFacts)
            self.assertEqual(error.index, index)
            self.assertIs(error.index.__class__, index.__class__)

    def test_the_value_itself_is_returned(self):
        for value in ((), ((2, ()),), ((0, (0, 29)), (0, (1, 0)), (1, (0,)), (1, (1,)), (2, ())), ALL_FACTS[:900]):
            self.assertIs(require_facts(KINDS, value), value)

    def test_exactly_as_many_as_there_can_be(self):
        self.assertEqual(len(ALL_FACTS), 5400)
        self.assertIs(require_facts((2,) * 6, ALL_FACTS), ALL_FACTS)

    def test_more_than_there_can_be(self):
        self.assert_wrong(None, (2,) * 6, ALL_FACTS + ALL_FACTS[-1:])
        self.assert_wrong(None, (2,) * 6, (None,) + ALL_FACTS)
        self.assert_wrong(None, (2,) * 6, (None,) * 5401)
        self.assert_wrong(None, (2,) * 6, (None,) * 100000)
        self.assert_wrong(0, (2,) * 6, (None,) * 5400)

    def test_what_is_no_tuple(self):
        for value in STRAYS + ([], [(2, ())], {(2, ()): True}, "", 0):
            if not isinstance(value, tuple):
                self.assert_wrong(None, KINDS, value)

    def test_the_first_part_that_is_no_fact(self):
        rows = [(0, (1, 2)), (1, (3,)), (2, ())]
        for index in range(3):
            for wrong in STRAYS + ((0, (1, 30)), (0, (True, 2)), (0, [1, 2]), (False, (1, 2)), (3, ()), [2, ()]):
                value = tuple(rows[:index] + [wrong] + rows[index + 1:])
                self.assert_wrong(index, KINDS, value)

    def test_a_fact_itself_is_no_facts(self):
        self.assert_wrong(0, KINDS, (0, (1, 2)))

    def test_a_part_that_is_equal_to_the_one_before(self):
        self.assert_wrong(1, KINDS, ((0, (1, 2)), (0, (1, 2))))
        self.assert_wrong(2, KINDS, ((0, (1, 2)), (1, (1,)), (1, (1,)), (2, ())))
        self.assert_wrong(1, KINDS, ((2, ()), (2, ())))

    def test_a_part_that_is_less_than_the_one_before(self):
        self.assert_wrong(1, KINDS, ((0, (1, 2)), (0, (1, 1))))
        self.assert_wrong(1, KINDS, ((0, (2, 1)), (0, (1, 2))))
        self.assert_wrong(1, KINDS, ((1, (0,)), (0, (5, 5))))
        self.assert_wrong(3, KINDS, ((0, (1, 2)), (0, (3, 0)), (1, (4,)), (1, (3,)), (2, ())))

    def test_a_part_that_is_less_than_an_earlier_one_only(self):
        self.assert_wrong(2, (1,), ((0, (1,)), (0, (3,)), (0, (2,)), (0, (3,))))

    def test_the_first_fault_of_several(self):
        self.assert_wrong(1, KINDS, ((0, (1, 2)), (0, (1, 1)), None))
        self.assert_wrong(1, KINDS, ((0, (1, 2)), None, (0, (1, 1))))
        self.assert_wrong(0, KINDS, (None, (0, (1, 2)), (0, (1, 1))))

    def test_the_kinds_matter(self):
        value = ((0, (1,)), (1, ()))
        self.assertIs(require_facts((1, 0), value), value)
        self.assert_wrong(0, (2, 0), value)
        self.assert_wrong(1, (1, 1), value)
        self.assert_wrong(1, (1,), value)

    def test_arguments_by_name(self):
        self.assertEqual(require_facts(value=((0, (7,)),), kinds=(1,)), ((0, (7,)),))
        self.assertRaises(InvalidFacts, require_facts, kinds=(1,), value=((0, (30,)),))


class AreAmong(unittest.TestCase):
    def assert_among(self, expected, facts, others):
        with self.subTest(facts=facts, others=others):
            self.assertIs(answer_leaving_arguments(self, are_among, facts, others), expected)

    def test_none_some_and_all_of_them(self):
        others = ((0, (1, 2)), (1, (3,)), (2, ()))
        self.assert_among(False, ((0, (2, 1)), (1, (4,))), others)
        self.assert_among(False, ((0, (1, 2)), (1, (4,))), others)
        self.assert_among(False, ((0, (1, 1)), (1, (3,))), others)
        self.assert_among(True, ((0, (1, 2)), (2, ())), others)
        self.assert_among(True, others, others)

    def test_one_missing_at_each_place(self):
        facts = ALL_FACTS[:5]
        for index in range(5):
            self.assert_among(False, facts, facts[:index] + facts[index + 1:])

    def test_more_facts_than_others(self):
        self.assert_among(False, ((1, (3,)), (2, ())), ((2, ()),))

    def test_empty_tuples(self):
        self.assert_among(True, (), ())
        self.assert_among(True, (), ((2, ()),))
        self.assert_among(False, ((2, ()),), ())

    def test_all_that_there_can_be(self):
        self.assertIs(are_among(ALL_FACTS, ALL_FACTS), True)
        self.assertIs(are_among(ALL_FACTS, ALL_FACTS[:-1]), False)
        self.assertIs(are_among(ALL_FACTS[1:], ALL_FACTS), True)

    def test_arguments_by_name(self):
        self.assertIs(are_among(others=((2, ()),), facts=()), True)
        self.assertIs(are_among(facts=((2, ()),), others=()), False)


if __name__ == "__main__":
    unittest.main()
