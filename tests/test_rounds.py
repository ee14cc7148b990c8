import itertools
import random
import unittest

from leadalike.facts import require_facts
from leadalike.programs import require_program
from leadalike.rounds import is_closed, model, next_round, rank_of, round_of
from tests.plainly import plain_rounds
from tests.randomly import draw_facts, draw_kinds, draw_program
from tests.samples import answer_leaving_arguments

COMPOSED = ((0, (-1, -3)), ((0, (-1, -2)), (0, (-2, -3))), ())
CLOSURE = ((2,), (COMPOSED,))
# One step further with each round.
STEPS = ((2, 2), (((1, (-1, -3)), ((1, (-1, -2)), (0, (-2, -3))), ()),))


def path(many, kind=0):
    return tuple((kind, (thing, thing + 1)) for thing in range(many))


class Rounds(unittest.TestCase):
    def assert_answer(self, expected, call, *arguments):
        with self.subTest(call=call.__name__, arguments=arguments):
            answer = answer_leaving_arguments(self, call, *arguments)
            # repr tells True from 1 and a list from a tuple.
            self.assertEqual(repr(answer), repr(expected))

    def assert_rounds(self, program, rounds):
        """These are the rounds of the first of them, all that are not the same."""
        require_program(program)
        facts = require_facts(program[0], rounds[0])
        last = len(rounds) - 1
        for k in (*range(last + 3), 5999, 6000):
            self.assert_answer(rounds[min(k, last)], round_of, program, facts, k)
        for k, told in enumerate(rounds):
            self.assert_answer(rounds[min(k + 1, last)], next_round, program, told)
            self.assert_answer(k == last, is_closed, program, told)
            self.assert_answer(rounds[last], model, program, told)
        for fact in rounds[last]:
            rank = min(k for k, told in enumerate(rounds) if fact in told)
            self.assert_answer(rank, rank_of, program, facts, fact)


class Example(unittest.TestCase):
    def test_the_answers_of_the_document(self):
        program = ((2,), (((0, (-1, -3)), ((0, (-1, -2)), (0, (-2, -3))), ()),))
        facts = ((0, (1, 2)), (0, (2, 3)), (0, (3, 4)))
        self.assertEqual(
            (model(program, facts)[:3], rank_of(program, facts, (0, (1, 4))), is_closed(program, facts)),
            (((0, (1, 2)), (0, (1, 3)), (0, (1, 4))), 2, False),
        )

    def test_each_function_is_defined_in_its_file(self):
        for call in (next_round, round_of, is_closed, model, rank_of):
            self.assertEqual(call.__module__, "leadalike.rounds")


class SmallPrograms(Rounds):
    def test_without_rules(self):
        for facts in ((), ((0, (1, 2)),), ((0, (1, 2)), (1, (3,)), (2, ()))):
            self.assert_rounds(((2, 1, 0), ()), [facts])
            self.assert_answer(None, rank_of, ((2, 1, 0), ()), facts, (1, (4,)))

    def test_rules_with_an_empty_body(self):
        program = ((1, 0), (((0, (4,)), (), ()), ((1, ()), (), ())))
        all_of_them = ((0, (4,)), (1, ()))
        self.assert_rounds(program, [(), all_of_them])
        self.assert_rounds(program, [((0, (4,)),), all_of_them])
        self.assert_rounds(program, [((0, (3,)),), ((0, (3,)), (0, (4,)), (1, ()))])
        self.assert_rounds(program, [all_of_them])

    def test_what_empty_bodies_lead_to_leads_on_in_the_next_round(self):
        program = ((1, 1, 1), (
            ((0, (4,)), (), ()), ((1, (-1,)), ((0, (-1,)),), ()), ((2, (-1,)), ((1, (-1,)), (0, (4,))), ()),
        ))
        self.assert_rounds(program, [(), ((0, (4,)),), ((0, (4,)), (1, (4,))), ((0, (4,)), (1, (4,)), (2, (4,)))])

    def test_rules_that_do_not_hold(self):
        self.assert_rounds(CLOSURE, [()])
        self.assert_rounds(CLOSURE, [((0, (1, 2)), (0, (3, 4)))])
        self.assert_rounds(((1, 1), (((1, (-1,)), ((0, (-1,)),), ((-1, 3),)),)), [((0, (3,)),)])

    def test_no_fact_comes_before_its_round_whatever_the_order_of_the_rules(self):
        for kinds in itertools.permutations(range(4)):
            rules = [((kinds[k + 1], (-1,)), ((kinds[k], (-1,)),), ()) for k in range(3)]
            rounds = [tuple(sorted((kind, (9,)) for kind in kinds[:many])) for many in range(1, 5)]
            self.assert_rounds(((1,) * 4, tuple(sorted(rules))), rounds)

    def test_a_rule_whose_facts_come_in_several_rounds(self):
        rules = (
            ((1, (-1,)), ((0, (-1,)),), ()), ((2, (-1,)), ((1, (-1,)),), ()),
            ((3, ()), ((0, (-1,)), (1, (-2,)), (2, (-3,))), ()),
        )
        facts = ((0, (5,)),), ((1, (5,)),), ((2, (5,)),), ((3, ()),)
        self.assert_rounds(((1, 1, 1, 0), rules), [sum(facts[:many], ()) for many in range(1, 5)])

    def test_a_fact_that_is_led_to_twice_has_its_first_rank(self):
        rules = (
            ((1, (-1,)), ((0, (-1,)),), ()), ((2, (-1,)), ((0, (-1,)),), ()), ((2, (-1,)), ((1, (-1,)),), ()),
        )
        self.assert_rounds(((1,) * 3, rules), [((0, (5,)),), ((0, (5,)), (1, (5,)), (2, (5,)))])

    def test_pairs(self):
        program = ((2,), (COMPOSED[:2] + (((-3, -1),),),))
        facts = ((0, (1, 2)), (0, (2, 1)), (0, (2, 3)))
        self.assert_rounds(program, [facts, ((0, (1, 2)), (0, (1, 3)), (0, (2, 1)), (0, (2, 3)))])

    def test_arguments_by_name(self):
        facts = path(3)
        self.assertEqual(next_round(facts=facts, program=CLOSURE), round_of(k=1, facts=facts, program=CLOSURE))
        self.assertEqual(model(facts=facts, program=CLOSURE), round_of(k=2, facts=facts, program=CLOSURE))
        self.assertIs(is_closed(facts=facts, program=CLOSURE), False)
        self.assertEqual(rank_of(fact=(0, (0, 3)), facts=facts, program=CLOSURE), 2)


class ManyRounds(Rounds):
    def test_a_path_whose_steps_double(self):
        facts = path(29)
        rounds = [
            tuple((0, (low, high)) for low, high in itertools.combinations(range(30), 2) if high - low <= 2 ** k)
            for k in range(6)
        ]
        self.assert_rounds(CLOSURE, rounds)

    def test_a_path_one_step_at_a_time(self):
        facts = path(29) + ((1, (0, 0)),)
        rounds = [tuple(sorted(facts + tuple((1, (0, thing)) for thing in range(k + 1)))) for k in range(30)]
        self.assert_rounds(STEPS, [tuple(sorted(set(told))) for told in rounds])

    def test_a_path_in_any_order(self):
        things = list(range(30))
        random.Random(3).shuffle(things)
        facts = tuple(sorted([(0, pair) for pair in zip(things, things[1:])] + [(1, (things[0],) * 2)]))
        for k, thing in enumerate(things):
            self.assertEqual(rank_of(STEPS, facts, (1, (things[0], thing))), k)
        self.assertIsNone(rank_of(STEPS, facts, (1, (things[1], things[1]))))

    def test_nearly_nine_hundred_rounds(self):
        # Counts from (0, 0) to (29, 29): the kind 0 is the count, the kind 1 tells the next thing.
        rules = (
            ((0, (-3, 0)), ((0, (-1, -2)), (1, (-1, -3)), (2, (-2,))), ()),
            ((0, (-1, -3)), ((0, (-1, -2)), (1, (-2, -3))), ()),
        )
        facts = ((0, (0, 0)),) + path(29, 1) + ((2, (29,)),)
        program = require_program(((2, 2, 1), rules))
        for count in (0, 1, 29, 30, 31, 450, 898, 899):
            fact = (0, (count // 30, count % 30))
            self.assertEqual(rank_of(program, facts, fact), count)
            self.assertIn(fact, round_of(program, facts, count))
            if count:
                self.assertNotIn(fact, round_of(program, facts, count - 1))
        self.assertEqual(len(round_of(program, facts, 898)), 929)
        self.assertEqual(len(model(program, facts)), 930)
        self.assertEqual(round_of(program, facts, 899), model(program, facts))
        self.assertIs(is_closed(program, round_of(program, facts, 898)), False)
        self.assertIs(is_closed(program, round_of(program, facts, 899)), True)

    def test_all_facts_that_there_can_be(self):
        rules = tuple(((kind + 1, (-1, -2)), ((kind, (-2, -1)),), ()) for kind in range(5))
        facts = tuple((0, pair) for pair in itertools.product(range(30), repeat=2))
        program = require_program(((2,) * 6, rules))
        all_facts = tuple((kind, pair) for kind in range(6) for pair in itertools.product(range(30), repeat=2))
        self.assertEqual(model(program, facts), all_facts)
        self.assertEqual(round_of(program, facts, 3), all_facts[:3600])
        self.assertIs(is_closed(program, all_facts), True)
        self.assertEqual(rank_of(program, facts, (5, (29, 0))), 5)


class RandomRounds(Rounds):
    def test_programs_and_facts_at_random(self):
        source = random.Random(8)
        lengths = set()
        for _ in range(250):
            kinds = draw_kinds(source)
            program = draw_program(source, kinds, (0, 1, 2), source.randint(0, 4))
            facts = draw_facts(source, kinds, (0, 1, 2, 17), source.randint(0, 7))
            rounds = plain_rounds(program, facts)
            lengths.add(len(rounds))
            with self.subTest(program=program, facts=facts):
                self.assertEqual([round_of(program, facts, k) for k in range(len(rounds))], rounds)
                self.assertEqual(round_of(program, facts, len(rounds)), rounds[-1])
                self.assertEqual(next_round(program, facts), rounds[min(1, len(rounds) - 1)])
                self.assertIs(is_closed(program, facts), len(rounds) == 1)
                self.assertEqual(model(program, facts), rounds[-1])
                for fact in draw_facts(source, kinds, (0, 1, 2, 17, 29), 5):
                    ranks = [k for k, told in enumerate(rounds) if fact in told]
                    self.assertEqual(rank_of(program, facts, fact), min(ranks, default=None))
        self.assertTrue({1, 2, 3, 4} <= lengths)


if __name__ == "__main__":
    unittest.main()
