import random
import unittest

from leadalike.enough import is_enough, least_enough
from leadalike.errors import LimitExceeded
from leadalike.programs import require_program
from leadalike.trees import leaves_of, plain_trees
from tests.plain_claims import plain_enough, plain_round
from tests.plainly import plain_rounds
from tests.randomly import draw_facts, draw_kinds, draw_program
from tests.samples import WITH_300_WAYS, WITH_301_WAYS, Answers

ONE = ((1, (-1,)), ((0, (-1,)),), ())
TWO = ((2, (-1,)), ((1, (-1,)),), ())
THREE = ((3, (-1,)), ((2, (-1,)),), ())
CHAIN = (1, 1, 1, 1)
PATHS = ((2,), (((0, (-1, -3)), ((0, (-1, -2)), (0, (-2, -3))), ()),))


class Enough(Answers):
    def assert_enough(self, answers, program, **named):
        """The answers for k from 0 on are told, None for too many trees; the least k that is enough follows."""
        require_program(program)
        for k, answer in enumerate(answers):
            if answer is None:
                self.assert_exceeded(is_enough, program, k, **named)
            else:
                self.assert_answer(answer, is_enough, program, k, **named)
        least = answers.index(True) if True in answers else None
        if None in answers[:least]:
            self.assert_exceeded(least_enough, program, **named)
        else:
            self.assert_answer(least, least_enough, program, **named)


class Example(unittest.TestCase):
    def test_the_answers_of_the_document(self):
        one, two = ((1, (-1,)), ((0, (-1,)),), ()), ((2, (-1,)), ((1, (-1,)),), ())
        self.assertEqual((
            least_enough(((1, 1, 1), ())), least_enough(((1, 1, 1), (one,))), least_enough(((1, 1, 1), (one, two))),
            is_enough(((1, 1, 1), (one, two)), 1),
        ), (0, 1, 2, False))

    def test_each_function_is_defined_in_its_file(self):
        for call in (is_enough, least_enough):
            self.assertEqual(call.__module__, "leadalike.enough")


class Rounds(Enough):
    def test_without_rules(self):
        self.assert_enough((True, True, True), ((1,), ()))
        self.assert_enough((True, True, True), ((0, 1, 2, 2, 1, 0), ()), tries=1)

    def test_rules_that_lead_to_their_own_facts(self):
        self.assert_enough((True, True, True), ((2,), (((0, (-1, -2)), ((0, (-1, -2)),), ()),)))
        self.assert_enough((True, True, True), ((2, 1), (((0, (-1, 4)), ((1, (-2,)), (0, (-1, 4))), ((-2, -1),)),)))

    def test_an_empty_body(self):
        self.assert_enough((False, True, True), ((0,), (((0, ()), (), ()),)))
        self.assert_enough((False, True, True), ((1, 0), (((0, (7,)), (), ((1, 2),)),)))
        self.assert_enough((False, False, True), ((1, 0), (((0, (7,)), (), ()), ((1, ()), ((0, (7,)),), ()))))

    def test_chains_of_rules(self):
        self.assert_enough((False, True, True), (CHAIN, (ONE,)))
        self.assert_enough((False, True, True), (CHAIN, (ONE, THREE)))
        self.assert_enough((False, False, True), (CHAIN, (ONE, TWO)))
        self.assert_enough((False, False, False), (CHAIN, (ONE, TWO, THREE)))

    def test_a_shortcut(self):
        short = ((3, (-1,)), ((0, (-1,)),), ())
        # One more rule after the other makes the ways from kind to kind shorter.
        self.assert_enough((False, False, True), (CHAIN, tuple(sorted((ONE, TWO, THREE, short)))))
        other = ((3, (-1,)), ((1, (-1,)),), ())
        self.assert_enough((False, False, True), (CHAIN, tuple(sorted((ONE, TWO, THREE, short, other)))))
        third = ((2, (-1,)), ((0, (-1,)),), ())
        self.assert_enough((False, True, True), (CHAIN, tuple(sorted((ONE, TWO, THREE, short, other, third)))))

    def test_recursive_rules(self):
        self.assert_enough((False, False, None), PATHS)
        # What is turned round twice is as it was.
        self.assert_enough((False, True, True), ((2,), (((0, (-2, -1)), ((0, (-1, -2)),), ()),)))
        self.assert_enough((False, True, True), ((2,), (((0, (-1, -1)), ((0, (-1, -2)),), ()),)))
        self.assert_enough((False, False, True), ((2, 1), (
            ((0, (-2, -1)), ((0, (-1, -2)),), ()), ((1, (-1,)), ((0, (-1, -2)),), ()),
        )))

    def test_pairs(self):
        # Where all things have to be unlike, the second round has a fact that the first one lacks; where the
        # pair is about known things alone, it is as if it were not there.
        for pairs, answers in ((((-3, -1),), (False, False, None)), (((4, 5),), (False, None, None))):
            rule = ((0, (-1, -3)), ((0, (-1, -2)), (0, (-2, -3))), pairs)
            self.assert_enough(answers, ((2,), (rule,)))
        turned = ((0, (-2, -1)), ((0, (-1, -2)),), ((-2, -1),))
        self.assert_enough((False, True, True), ((2,), (turned,)))
        same = ((0, (-1, -1)), ((0, (-1, -1)), (0, (-1, -2))), ((-2, -1),))
        self.assert_enough((True, True, True), ((2,), (same,)))

    def test_things(self):
        steps = [((0, (thing + 1,)), ((0, (thing,)),), ()) for thing in range(3)]
        self.assert_enough((False, True, True), ((1,), tuple(sorted(steps[:1]))))
        self.assert_enough((False, False, True), ((1,), tuple(sorted(steps[:2]))))
        self.assert_enough((False, False, False), ((1,), tuple(sorted(steps))))
        around = [((0, (1 - thing,)), ((0, (thing,)),), ()) for thing in range(2)]
        self.assert_enough((False, True, True), ((1,), tuple(sorted(around))))

    def test_facts_of_the_kinds_that_rules_lead_to_count_too(self):
        # From the kind 0 alone one round would be enough, but not from the kind 1.
        program = ((1, 1, 1), (ONE, ((2, (-1,)), ((0, (-1,)),), ()), ((2, (-1,)), ((1, (-1,)),), ())))
        self.assert_enough((False, True, True), program)
        self.assert_enough((False, False, True), (program[0], tuple(sorted((ONE, TWO)))))

    def test_at_random(self):
        source = random.Random(30)
        counts = {}
        while len(counts) < 5 or min(counts.values()) < 3:
            kinds = draw_kinds(source)
            program = draw_program(source, kinds, source.choice(((), (0, 3))), source.randint(0, 3), 4)
            expected = [plain_enough(program, k) for k in range(3)]
            if None in expected:
                counts["many"] = counts.get("many", 0) + 1
                continue
            self.assert_enough(expected, program, tries=1000)
            least = least_enough(program, tries=1000)
            counts[least] = counts.get(least, 0) + 1
            for k in range(3):
                self.assert_is_so_for_facts(source, program, k, expected[k])

    def assert_is_so_for_facts(self, source, program, k, is_so):
        """So many rounds are enough for any facts; or they are not for the leaves of some plain tree."""
        if is_so:
            for _ in range(3):
                facts = draw_facts(source, program[0], (0, 1, 3, 29), 4)
                self.assertEqual(plain_round(program, facts, k), plain_rounds(program, facts)[-1])
            return
        self.assertTrue(any(
            plain_round(program, facts, k) != plain_rounds(program, facts)[-1]
            for facts in (leaves_of(program, tree) for tree in plain_trees(program, k + 1, tries=1000))
        ))

    def test_arguments_by_name(self):
        self.assertIs(is_enough(tries=9, k=1, program=(CHAIN, (ONE,))), True)
        self.assertEqual(least_enough(tries=9, program=(CHAIN, (ONE,))), 1)

    def test_tries_by_name_alone(self):
        self.assertRaises(TypeError, is_enough, PATHS, 1, 300)
        self.assertRaises(TypeError, least_enough, PATHS, 300)


class Limits(Enough):
    def test_at_and_beside_the_number_of_plain_trees(self):
        programs = (
            ((1,), (((0, (-1,)), ((0, (-1,)),), ()),)), ((0,), (((0, ()), ((0, ()), (0, ())), ()),)),
            (CHAIN, (ONE, TWO)), (CHAIN, (ONE, TWO, THREE)), ((2,), (((0, (-2, -1)), ((0, (-1, -2)),), ()),)),
        )
        for program in programs:
            for k in range(3):
                many = len(plain_trees(program, k + 1))
                expected = plain_enough(program, k)
                for tries in (many, many + 1, 1000):
                    self.assertIs(is_enough(program, k, tries=tries), expected)
                for tries in {1, many - 1} - {0, many}:
                    self.assert_exceeded(is_enough, program, k, tries=tries)

    def test_whatever_the_answer_would_be(self):
        # The very first plain tree tells that no round is not enough, but there are more of them.
        program = ((0, 1), (((0, ()), (), ()), ((1, (-1,)), ((1, (-1,)), (0, ())), ())))
        self.assertEqual(len(plain_trees(program, 1)), 2)
        self.assert_exceeded(is_enough, program, 0, tries=1)
        self.assertIs(is_enough(program, 0, tries=2), False)

    def test_the_least_one_looks_no_further_than_needed(self):
        wide = ((0,), (((0, ()), ((0, ()), (0, ()), (0, ())), ()),))
        self.assertEqual(least_enough(wide, tries=1), 0)
        self.assert_exceeded(is_enough, wide, 1, tries=7)
        pair = (CHAIN, (ONE, TWO))
        counts = [len(plain_trees(pair, depth)) for depth in (1, 2, 3)]
        self.assertEqual(counts, [2, 3, 3])
        self.assertEqual(least_enough(pair, tries=3), 2)
        self.assert_exceeded(least_enough, pair, tries=2)
        turned = ((2,), (((0, (-2, -1)), ((0, (-1, -2)),), ()),))
        self.assertEqual([len(plain_trees(turned, depth)) for depth in (1, 2, 3)], [2, 4, 6])
        self.assertEqual(least_enough(turned, tries=4), 1)
        self.assert_exceeded(least_enough, turned, tries=3)

    def test_three_hundred_by_default(self):
        self.assertEqual([len(plain_trees(each, 1, tries=301)) for each in (WITH_300_WAYS, WITH_301_WAYS)], [300, 301])
        self.assertIs(is_enough(WITH_300_WAYS, 0), False)
        self.assert_exceeded(is_enough, WITH_301_WAYS, 0)
        self.assert_exceeded(least_enough, WITH_301_WAYS)
        self.assertIs(is_enough(WITH_301_WAYS, 0, tries=301), False)
        self.assert_exceeded(least_enough, WITH_300_WAYS)

    def test_very_many_plain_trees(self):
        far = ((0, 2), (((0, ()), ((0, ()), (1, (-1, -2)), (1, (-3, -4))), ()),))
        paths = ((2,), (((0, (-1, -2)), ((0, (-1, -3)), (0, (-3, -4)), (0, (-4, -2))), ()),))
        for program in (far, paths):
            for tries in (300, 1000):
                self.assert_exceeded(is_enough, program, 1, tries=tries)
                self.assert_exceeded(is_enough, program, 2, tries=tries)
        # The root of each plain tree is one of its leaves, as the body has the head.
        self.assertEqual(least_enough(far), 0)
        self.assert_exceeded(least_enough, paths)

    def test_at_random(self):
        source = random.Random(31)
        for _ in range(60):
            program = draw_program(source, draw_kinds(source), (0, 5), 3, 4)
            for k in range(3):
                try:
                    many = len(plain_trees(program, k + 1, tries=200))
                except LimitExceeded:
                    self.assert_exceeded(is_enough, program, k, tries=200)
                    break
                if many > 1:
                    self.assert_exceeded(is_enough, program, k, tries=many - 1)
                self.assertIs(is_enough(program, k, tries=max(1, many)), plain_enough(program, k))


if __name__ == "__main__":
    unittest.main()
