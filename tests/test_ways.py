import itertools
import random
import types
import unittest

from leadalike.programs import known_things, require_program, variables_of
from leadalike.ways import facts_of, way_like, ways_of
from tests.plainly import plain_body, plain_unlike, plain_variables, plain_ways
from tests.randomly import draw_kinds, draw_rule
from tests.samples import answer_leaving_arguments

# Kinds of 2, 1 and 0 things.
KINDS = (2, 1, 0)
PLAIN = ((2, ()), ((1, (7,)), (2, ())), ((4, 5),))
ONE = ((2, ()), ((1, (-1,)),), ())
TWO = ((2, ()), ((0, (-1, -2)),), ())
FOUR = ((2, ()), ((0, (-4, -3)), (0, (-2, -1))), ())


def listed_ways(rule, known):
    return list(ways_of(rule, known))


class Example(unittest.TestCase):
    def test_the_answers_of_the_document(self):
        rule = ((1, (-1,)), ((0, (-1, -2)),), ((-2, -1),))
        self.assertEqual(
            (list(ways_of(rule, (1,))), way_like(rule, (9, 1), (1,))), ([(0, 1), (0, 2), (1, 0)], (0, 1)),
        )
        self.assertEqual(list(ways_of(TWO, (1,))), [(0, 0), (0, 1), (0, 2), (1, 0), (1, 1)])
        self.assertEqual(list(ways_of(PLAIN, (1, 4, 5, 7))), [()])

    def test_each_function_is_defined_in_its_file(self):
        for call in (ways_of, facts_of, way_like):
            self.assertEqual(call.__module__, "leadalike.ways")


class WaysOf(unittest.TestCase):
    def assert_ways(self, expected, rule, known):
        with self.subTest(rule=rule, known=known):
            require_program((KINDS, (rule,)))
            self.assertEqual(repr(answer_leaving_arguments(self, listed_ways, rule, known)), repr(list(expected)))

    def test_a_rule_without_variables(self):
        for known in ((4, 5, 7), (0, 4, 5, 7), tuple(range(10))):
            self.assert_ways([()], PLAIN, known)
        self.assert_ways([()], ((2, ()), (), ()), ())

    def test_one_variable(self):
        self.assert_ways([(0,)], ONE, ())
        self.assert_ways([(0,), (1,)], ONE, (0,))
        self.assert_ways([(0,), (1,)], ONE, (1,))
        self.assert_ways([(0,), (5,), (9,)], ONE, (5, 9))
        self.assert_ways([(0,), (1,), (2,), (3,)], ONE, (0, 1, 3))
        self.assert_ways([(thing,) for thing in range(11)], ONE, tuple(range(10)))

    def test_two_variables(self):
        self.assert_ways([(0, 0), (0, 1)], TWO, ())
        self.assert_ways([(0, 0), (0, 1), (1, 0), (1, 1), (1, 2)], TWO, (0,))
        self.assert_ways([(0, 0), (0, 1), (0, 5), (5, 0), (5, 5)], TWO, (5,))
        # The new thing 11 stands only behind the new thing 10.
        pairs = [*itertools.product(range(11), repeat=2), (10, 11)]
        self.assert_ways(pairs, TWO, tuple(range(10)))

    def test_four_variables(self):
        self.assert_ways([
            (0, 0, 0, 0), (0, 0, 0, 1), (0, 0, 1, 0), (0, 0, 1, 1), (0, 0, 1, 2), (0, 1, 0, 0), (0, 1, 0, 1),
            (0, 1, 0, 2), (0, 1, 1, 0), (0, 1, 1, 1), (0, 1, 1, 2), (0, 1, 2, 0), (0, 1, 2, 1), (0, 1, 2, 2),
            (0, 1, 2, 3),
        ], FOUR, ())
        for known, many in (((), 15), ((0,), 52), ((4,), 52), ((3, 9), 151), ((1, 2, 3), 372)):
            self.assertEqual(len(list(ways_of(FOUR, known))), many)
            self.assert_ways(plain_ways(FOUR, known), FOUR, known)

    def test_four_variables_and_all_known_things(self):
        ways = list(ways_of(FOUR, tuple(range(10))))
        self.assertEqual(ways, plain_ways(FOUR, tuple(range(10))))
        self.assertEqual((ways[0], ways[-1]), ((0, 0, 0, 0), (10, 11, 12, 13)))

    def test_pairs(self):
        apart = TWO[:2] + (((-2, -1),),)
        self.assert_ways([(0, 1)], apart, ())
        self.assert_ways([(0, 1), (0, 4), (4, 0)], apart, (4,))
        not_four = TWO[:2] + (((-2, 4),),)
        self.assert_ways([(0, 0), (0, 1), (4, 0)], not_four, (4,))
        both = TWO[:2] + (((-2, -1), (-2, 4), (-1, 4)),)
        self.assert_ways([(0, 1)], both, (4,))
        things = TWO[:2] + (((3, 4),),)
        pairs = [(0, 0), (0, 1), (0, 3), (0, 4), (3, 0), (3, 3), (3, 4), (4, 0), (4, 3), (4, 4)]
        self.assert_ways(pairs, things, (3, 4))

    def test_pairs_of_four_variables(self):
        rule = FOUR[:2] + (((-4, -1), (-3, -2), (-2, 0)),)
        for known in ((0,), (0, 5), (0, 1, 9)):
            self.assert_ways(plain_ways(rule, known), rule, known)

    def test_it_is_a_generator_and_can_be_stopped_early(self):
        ways = ways_of(FOUR, tuple(range(10)))
        self.assertIsInstance(ways, types.GeneratorType)
        self.assertEqual([next(ways), next(ways)], [(0, 0, 0, 0), (0, 0, 0, 1)])
        ways.close()
        self.assertEqual(next(ways_of(FOUR, ())), (0, 0, 0, 0))

    def test_two_at_a_time_do_not_touch_each_other(self):
        one, other = ways_of(TWO, (1,)), ways_of(TWO, (1,))
        self.assertEqual([next(one), next(other), next(one), next(other)], [(0, 0), (0, 0), (0, 1), (0, 1)])

    def test_at_random(self):
        source = random.Random(11)
        for _ in range(150):
            kinds = draw_kinds(source)
            rule = draw_rule(source, kinds, (0, 1, 3, 9), source.randint(0, 3))
            more = [thing for thing in range(10) if source.random() < 0.3]
            known = tuple(sorted({*more, *known_things((kinds, (rule,)))}))
            with self.subTest(rule=rule, known=known):
                self.assertEqual(list(ways_of(rule, known)), plain_ways(rule, known))

    def test_arguments_by_name(self):
        self.assertEqual(list(ways_of(known=(1,), rule=ONE)), [(0,), (1,)])


class FactsOf(unittest.TestCase):
    def assert_facts(self, expected, rule, values):
        with self.subTest(rule=rule, values=values):
            self.assertEqual(repr(answer_leaving_arguments(self, facts_of, rule, values)), repr(expected))

    def test_they_are_a_set(self):
        self.assert_facts((), ((2, ()), (), ()), ())
        self.assert_facts(((1, (7,)), (2, ())), PLAIN, ())
        self.assert_facts(((0, (1, 2)), (0, (4, 3))), FOUR, (2, 1, 3, 4))
        self.assert_facts(((0, (0, 9)), (0, (1, 8))), FOUR, (8, 1, 9, 0))
        self.assert_facts(((0, (2, 2)),), FOUR, (2, 2, 2, 2))
        self.assert_facts(((0, (29, 2)),), FOUR, (2, 29, 2, 29))

    def test_an_atom_twice_and_atoms_out_of_order(self):
        rule = ((2, ()), ((2, ()), (1, (-1,)), (2, ())), ())
        self.assert_facts(((1, (3,)), (2, ())), rule, (3,))
        rule = ((2, ()), ((1, (-1,)), (1, (-2,)), (0, (-2, 5))), ())
        self.assert_facts(((0, (1, 5)), (1, (1,)), (1, (3,))), rule, (3, 1))
        self.assert_facts(((0, (3, 5)), (1, (3,))), rule, (3, 3))

    def test_at_random(self):
        source = random.Random(12)
        for _ in range(300):
            rule = draw_rule(source, KINDS, (0, 1, 9), 4)
            values = tuple(source.choice((0, 1, 9, 29)) for _ in variables_of(rule))
            self.assertEqual(facts_of(rule, values), tuple(sorted(set(plain_body(rule, values)))))

    def test_arguments_by_name(self):
        self.assertEqual(facts_of(values=(3,), rule=ONE), ((1, (3,)),))


class WayLike(unittest.TestCase):
    def assert_like(self, expected, rule, values, known):
        with self.subTest(rule=rule, values=values, known=known):
            self.assertEqual(repr(answer_leaving_arguments(self, way_like, rule, values, known)), repr(expected))

    def test_a_rule_without_variables(self):
        self.assert_like((), PLAIN, (), (4, 5, 7))

    def test_known_things_stay(self):
        for thing in range(10):
            self.assert_like((thing,), ONE, (thing,), tuple(range(10)))
        self.assert_like((5, 9), TWO, (5, 9), (5, 9))
        self.assert_like((9, 9), TWO, (9, 9), (5, 9))

    def test_new_things_become_the_least_ones_as_they_come(self):
        self.assert_like((0,), ONE, (29,), ())
        self.assert_like((1,), ONE, (29,), (0,))
        self.assert_like((10,), ONE, (29,), tuple(range(10)))
        self.assert_like((0, 1), TWO, (8, 3), ())
        self.assert_like((0, 0), TWO, (8, 8), ())
        self.assert_like((0, 2), TWO, (8, 3), (1,))
        self.assert_like((1, 0), TWO, (1, 3), (1,))
        self.assert_like((0, 1, 0, 2), FOUR, (4, 3, 4, 0), ())
        self.assert_like((0, 3, 2, 3), FOUR, (7, 3, 6, 3), (1, 3))
        self.assert_like((10, 11, 12, 13), FOUR, (29, 28, 27, 26), tuple(range(10)))

    def test_a_new_thing_that_is_the_least_one_itself_may_become_another(self):
        self.assert_like((0, 1), TWO, (1, 0), ())
        self.assert_like((0, 1, 2, 3), FOUR, (3, 2, 1, 0), ())

    def test_it_is_the_only_way_that_is_like_the_values(self):
        source = random.Random(13)
        for _ in range(400):
            kinds = draw_kinds(source)
            rule = draw_rule(source, kinds, (0, 2, 9), source.randint(0, 4))
            known = tuple(sorted({*known_things((kinds, (rule,))), *source.choice(((), (1,), (8,)))}))
            values = tuple(source.choice((0, 1, 2, 9, 14, 28, 29)) for _ in plain_variables(rule))
            if not plain_unlike(rule, values):
                continue
            like = [way for way in ways_of(rule, known) if are_like(way, values, known)]
            with self.subTest(rule=rule, known=known, values=values):
                self.assertEqual([way_like(rule, values, known)], like)

    def test_a_way_is_like_itself(self):
        rule = FOUR[:2] + (((-4, -1),),)
        for known in ((), (0,), (3, 8)):
            for way in ways_of(rule, known):
                self.assert_like(way, rule, way, known)

    def test_arguments_by_name(self):
        self.assertEqual(way_like(known=(1,), values=(9, 1), rule=TWO), (0, 1))


def are_like(way, values, known):
    """Whether the known things stand at the same places and the same places have the same things."""
    for index, value in enumerate(values):
        if (value in known or way[index] in known) and value != way[index]:
            return False
        if [value == other for other in values] != [way[index] == other for other in way]:
            return False
    return True


if __name__ == "__main__":
    unittest.main()
