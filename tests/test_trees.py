import random
import unittest

from leadalike.errors import LimitExceeded
from leadalike.programs import known_things, require_program
from leadalike.trees import depth_of, is_tree, leaves_of, plain_trees, root_of, tree_for
from tests.plainly import (
    all_trees, is_in_order, plain_depth, plain_is_tree, plain_leaves, plain_root, plain_rounds, values_in,
)
from tests.randomly import altered, draw_facts, draw_kinds, draw_program
from tests.samples import STRAYS, answer_leaving_arguments, nested_in_lists, nested_in_tuples

# Kinds of 2, 1 and 0 things; the rules: all paths, a thing that has one, a rule without atoms, one without variables.
PROGRAM = ((2, 1, 0), (
    ((0, (-1, -3)), ((0, (-1, -2)), (0, (-2, -3))), ((-3, -1),)),
    ((1, (-2,)), ((0, (-2, -1)), (2, ())), ()),
    ((2, ()), (), ()),
    ((2, ()), ((0, (1, 2)), (1, (4,))), ((0, 9),)),
))
LEAF = (2, (), ())
PATH = (0, (1, 5, 2), ((), ()))
LONG = (0, (1, 2, 3), (PATH, ()))
DEEP = (1, (3, 1), (LONG, LEAF))
ONE_STEP = ((1,), (((0, (-1,)), ((0, (-1,)),), ()),))
WRONG_INTEGERS = (
    -1, -2, -30, 30, 10 ** 50, True, False, None, "", "1", (), (1,), [], [1], {}, {1: 1},
    nested_in_tuples(30), nested_in_lists(30),
)


def chain(depth, tree=()):
    for _ in range(depth):
        tree = (0, (5,), (tree,))
    return tree


class Trees(unittest.TestCase):
    def assert_answer(self, expected, call, *arguments, **named):
        with self.subTest(call=call.__name__, arguments=repr(arguments)[:300], **named):
            answer = answer_leaving_arguments(self, call, *arguments, **named)
            self.assertEqual(repr(answer), repr(expected))

    def assert_exceeded(self, *arguments, **named):
        with self.subTest(arguments=arguments, **named):
            error = answer_leaving_arguments(self, plain_trees, *arguments, **named)
            self.assertIs(error.__class__, LimitExceeded)
            self.assertEqual(error.limit, named.get("tries", 300))


class Example(unittest.TestCase):
    def test_the_answers_of_the_document(self):
        program = ((1, 1), (((0, (-1,)), ((1, (-1,)),), ()),))
        tree = plain_trees(program, 2)[0]
        self.assertEqual(
            (plain_trees(program, 2), root_of(program, tree), leaves_of(program, tree)),
            (((0, (0,), ((),)),), (0, (0,)), ((1, (0,)),)),
        )

    def test_each_function_is_defined_in_its_file(self):
        for call in (root_of, leaves_of, depth_of, is_tree, plain_trees, tree_for):
            self.assertEqual(call.__module__, "leadalike.trees")


class RootLeavesDepth(Trees):
    def assert_told(self, root, leaves, depth, program, tree):
        require_program(program)
        self.assertIs(is_tree(program, tree), True)
        self.assert_answer(root, root_of, program, tree)
        self.assert_answer(leaves, leaves_of, program, tree)
        self.assert_answer(depth, depth_of, tree)

    def test_trees_of_depth_1(self):
        self.assert_told((2, ()), (), 1, PROGRAM, LEAF)
        self.assert_told((0, (1, 2)), ((0, (1, 5)), (0, (5, 2))), 1, PROGRAM, PATH)
        self.assert_told((2, ()), ((0, (1, 2)), (1, (4,))), 1, PROGRAM, (3, (), ((), ())))
        self.assert_told((1, (29,)), ((0, (29, 0)), (2, ())), 1, PROGRAM, (1, (0, 29), ((), ())))

    def test_deeper_trees(self):
        self.assert_told((0, (1, 3)), ((0, (1, 5)), (0, (2, 3)), (0, (5, 2))), 2, PROGRAM, LONG)
        self.assert_told((1, (1,)), ((0, (1, 3)),), 2, PROGRAM, (1, (3, 1), ((), LEAF)))
        self.assert_told((1, (1,)), ((0, (1, 5)), (0, (2, 3)), (0, (5, 2))), 3, PROGRAM, DEEP)
        with_leaf = (1, (3, 1), (LONG, ()))
        self.assert_told((1, (1,)), ((0, (1, 5)), (0, (2, 3)), (0, (5, 2)), (2, ())), 3, PROGRAM, with_leaf)

    def test_the_deepest_part_counts_wherever_it_stands(self):
        for parts in ((LONG, ()), ((), (0, (3, 4, 5), (PATH[:0], (0, (4, 6, 5), ((), ())))))):
            tree = (0, (1, 3, 5), parts)
            self.assertEqual(depth_of(tree), plain_depth(tree))
            self.assertEqual(depth_of(tree), 3)

    def test_a_leaf_is_told_once_and_a_leaf_may_be_a_root_elsewhere(self):
        program = ((1, 0), (((0, (-1,)), ((0, (-1,)), (0, (-1,)), (0, (-1,))), ()),))
        tree = (0, (7,), ((), (0, (7,), ((), (), ())), ()))
        self.assert_told((0, (7,)), ((0, (7,)),), 2, program, tree)

    def test_deep_trees(self):
        for depth in (19, 20, 400):
            self.assertEqual(depth_of(chain(depth)), depth)
            self.assertEqual(root_of(ONE_STEP, chain(depth)), (0, (5,)))
            self.assertEqual(leaves_of(ONE_STEP, chain(depth)), ((0, (5,)),))

    def test_at_random(self):
        source = random.Random(18)
        for _ in range(60):
            program = draw_program(source, draw_kinds(source), (0, 1), 2, 3)
            for tree in all_trees(program, (0, 1), 2)[:200]:
                root, leaves, depth = plain_root(program, tree), plain_leaves(program, tree), plain_depth(tree)
                self.assert_told(root, leaves, depth, program, tree)

    def test_arguments_by_name(self):
        self.assertEqual(root_of(tree=LEAF, program=PROGRAM), (2, ()))
        self.assertEqual(leaves_of(tree=LEAF, program=PROGRAM), ())
        self.assertEqual(depth_of(tree=LEAF), 1)
        self.assertIs(is_tree(value=LEAF, program=PROGRAM), True)


class IsTree(Trees):
    def assert_is(self, expected, value, program=PROGRAM):
        self.assert_answer(expected, is_tree, program, value)

    def test_trees(self):
        for tree in (LEAF, PATH, LONG, DEEP, (3, (), ((), ())), (3, (), (PATH, ())), (1, (3, 1), ((), ()))):
            self.assert_is(True, tree)

    def test_what_is_no_triple(self):
        for value in STRAYS:
            self.assert_is(False, value)
        for value in ((), [*LEAF], [*PATH], (2, ()), (2, (), (), ()), (LEAF,), {2: (), (): ()}, "abc"):
            self.assert_is(False, value)

    def test_wrong_indices(self):
        for wrong in WRONG_INTEGERS + (4, -4):
            self.assert_is(False, (wrong, (), ()))
            self.assert_is(False, (wrong, (3, 1), ((), ())))
            self.assert_is(False, (1, (3, 1), ((), (wrong, (), ()))))
        self.assert_is(True, (1, (3, 1), ((), ())))
        self.assert_is(False, (True, (3, 1), ((), ())))
        self.assert_is(False, (False, (1, 5, 2), ((), ())))
        self.assert_is(False, (0, (), ()), ((1,), ()))

    def test_wrong_values(self):
        for wrong in WRONG_INTEGERS:
            self.assert_is(False, (0, (wrong, 5, 2), ((), ())))
            self.assert_is(False, (0, (1, wrong, 2), ((), ())))
            self.assert_is(False, (0, (1, 5, wrong), ((), ())))
            self.assert_is(False, (0, (1, 2, 3), ((0, (1, wrong, 2), ((), ())), ())))
        for wrong in ((), (1,), (1, 5), (1, 5, 2, 2), [1, 5, 2], None, 3, "abc", {1: 1, 5: 5, 2: 2}, ((1, 5, 2),)):
            self.assert_is(False, (0, wrong, ((), ())))

    def test_wrong_parts(self):
        for wrong in ((), ((),), ((), (), ()), [(), ()], None, 3, "ab", {1: (), 2: ()}, ((), ((),)), ((), [])):
            self.assert_is(False, (0, (1, 5, 2), wrong))
        for wrong in STRAYS + ([], {}, "", None, 0, False, ((),), [*PATH], PATH[:2]):
            self.assert_is(False, (0, (1, 2, 3), (wrong, ())))
            self.assert_is(False, (0, (1, 2, 3), ((), wrong)))

    def test_a_part_whose_root_is_another_fact(self):
        self.assert_is(True, (0, (1, 2, 3), (PATH, ())))
        self.assert_is(False, (0, (1, 2, 3), ((), PATH)))
        self.assert_is(False, (0, (1, 4, 3), (PATH, ())))
        self.assert_is(False, (0, (1, 2, 3), (LEAF, ())))
        self.assert_is(False, (0, (1, 2, 3), ((0, (1, 5, 4), ((), ())), ())))
        self.assert_is(False, (1, (3, 1), (LONG, LONG)))
        self.assert_is(False, (1, (4, 1), (LONG, LEAF)))

    def test_a_part_deep_down_whose_root_is_another_fact(self):
        self.assert_is(True, DEEP)
        self.assert_is(False, (1, (3, 1), ((0, (1, 2, 3), ((0, (1, 5, 3), ((), ())), ())), LEAF)))

    def test_pairs_that_are_not_unlike(self):
        self.assert_is(False, (0, (1, 5, 1), ((), ())))
        self.assert_is(False, (0, (1, 1, 2), ((0, (1, 5, 1), ((), ())), ())))
        self.assert_is(True, (0, (1, 1, 2), ((), (0, (1, 5, 2), ((), ())))))

    def test_deep_and_large_trees(self):
        for depth in (19, 400, 5000):
            self.assertIs(is_tree(ONE_STEP, chain(depth)), True)
            self.assertIs(is_tree(ONE_STEP, chain(depth, (0, (6,), ((),)))), False)
            self.assertIs(is_tree(ONE_STEP, chain(depth, None)), False)
        threes = ((1,), (((0, (-1,)), ((0, (-1,)), (0, (-1,)), (0, (-1,))), ()),))
        tree = ()
        for _ in range(9):
            tree = (0, (5,), (tree, tree, tree))
        self.assertIs(is_tree(threes, tree), True)
        self.assertIs(is_tree(threes, (0, (5,), (tree, tree, (0, (5,), (tree, tree, (0, (4,), ((), (), ()))))))), False)
        self.assertIs(is_tree(threes, (0, (5,), ((),) * 900000)), False)
        self.assertIs(is_tree(threes, (0, (5,) * 900000, ((), (), ()))), False)
        self.assertIs(is_tree(threes, ((),) * 900000), False)

    def test_trees_that_were_altered(self):
        source = random.Random(19)
        answers = {True: 0, False: 0}
        for _ in range(200):
            program = draw_program(source, draw_kinds(source), (0, 1), 3, 4)
            trees = all_trees(program, (0, 1), 2)
            for tree in source.sample(trees, min(10, len(trees))):
                for _ in range(8):
                    value = altered(source, tree)
                    expected = plain_is_tree(program, value)
                    answers[expected] += 1
                    self.assert_is(expected, value, program)
        self.assertGreater(min(answers.values()), 100)


class PlainTrees(Trees):
    def assert_plain(self, expected, program, depth):
        require_program(program)
        self.assert_answer(expected, plain_trees, program, depth)

    def test_without_rules(self):
        for depth in (1, 2, 3):
            self.assert_plain((), ((1,), ()), depth)

    def test_a_rule_without_atoms(self):
        for depth in (1, 2, 3):
            self.assert_plain(((0, (), ()),), ((0,), (((0, ()), (), ()),)), depth)

    def test_a_recursive_rule(self):
        self.assert_plain(((0, (0,), ((),)),), ONE_STEP, 1)
        self.assert_plain(((0, (0,), ((),)), (0, (0,), ((0, (0,), ((),)),))), ONE_STEP, 2)
        self.assert_plain(tuple((0, (0,), (part,)) for part in ((), *plain_trees(ONE_STEP, 2))), ONE_STEP, 3)

    def test_new_things_come_in_the_order_of_the_whole_tree(self):
        # The first part brings the thing 2 in, so that the second one may use it and begins with 3 else.
        program = ((2, 1), (
            ((0, (-1, -2)), ((1, (-1,)), (1, (-2,))), ((-2, -1),)),
            ((1, (-1,)), ((0, (-1, -2)),), ((-2, -1),)),
        ))
        roots = ((0, 1), (0, 1))
        two = [tree for tree in plain_trees(program, 2) if tree[0] == 0]
        parts = [
            ((), ()), ((), (1, (1, 0), ((),))), ((), (1, (1, 2), ((),))), ((1, (0, 1), ((),)), ()),
            ((1, (0, 1), ((),)), (1, (1, 0), ((),))), ((1, (0, 1), ((),)), (1, (1, 2), ((),))),
            ((1, (0, 2), ((),)), ()), ((1, (0, 2), ((),)), (1, (1, 0), ((),))),
            ((1, (0, 2), ((),)), (1, (1, 2), ((),))), ((1, (0, 2), ((),)), (1, (1, 3), ((),))),
        ]
        self.assertEqual(two, [(0, roots[0], each) for each in parts])

    def test_the_values_of_a_part_come_before_those_of_the_next_one(self):
        # The part of the first part brings 1 in, then the second part 2.
        program = ((0, 0, 0, 1), (
            ((0, ()), ((1, ()), (2, ())), ()), ((1, ()), ((2, ()),), ()),
            ((2, ()), ((3, (-1,)), (3, (-2,))), ((-2, -1),)),
        ))
        both = [tree for tree in plain_trees(program, 3) if tree[0] == 0 and () not in tree[2]]
        deep = [tree for tree in both if () not in tree[2][0][2]]
        pairs = [(0, 1), (0, 2), (1, 0), (1, 2), (2, 0), (2, 1), (2, 3)]
        self.assertEqual(
            deep, [(0, (), ((1, (), ((2, (0, 1), ((), ())),)), (2, pair, ((), ())))) for pair in pairs],
        )

    def test_known_things(self):
        program = ((1, 1), (((0, (-1,)), ((1, (-1,)),), ()), ((1, (2,)), ((0, (-1,)),), ((-1, 5),))))
        self.assert_plain((
            (0, (0,), ((),)), (0, (2,), ((),)), (0, (5,), ((),)), (1, (0,), ((),)), (1, (2,), ((),)),
        ), program, 1)
        self.assert_plain((
            (0, (0,), ((),)), (0, (2,), ((),)), (0, (2,), ((1, (0,), ((),)),)), (0, (2,), ((1, (2,), ((),)),)),
            (0, (5,), ((),)), (1, (0,), ((),)), (1, (0,), ((0, (0,), ((),)),)), (1, (2,), ((),)),
            (1, (2,), ((0, (2,), ((),)),)),
        ), program, 2)

    def test_parts_whose_heads_have_things_or_a_variable_twice(self):
        program = ((2, 2), (
            ((0, (-1, -2)), ((1, (-1, -2)),), ()), ((1, (-1, -1)), ((0, (-1, -1)),), ()),
            ((1, (4, -1)), ((0, (-1, 4)),), ()),
        ))
        zero = ((1, 1), (((0, (-1,)), ((1, (-1,)),), ()), ((1, (0,)), (), ()), ((1, (1,)), ((1, (0,)), (0, (1,))), ())))
        for depth in (1, 2, 3):
            self.assert_plain(self.plain(program, depth), program, depth)
            self.assert_plain(self.plain(zero, depth), zero, depth)

    def test_parts_whose_pairs_can_not_be_unlike(self):
        program = ((2, 1), (((0, (-1, -2)), ((1, (-1,)), (1, (-2,))), ((-2, -1),)), ((1, (-1,)), ((0, (-1, -1)),), ())))
        for depth in (1, 2, 3):
            self.assert_plain(self.plain(program, depth), program, depth)

    def plain(self, program, depth):
        """All plain trees, drawn from all trees of more than enough things."""
        known = known_things(program)
        fresh = [thing for thing in range(30) if thing not in known][:4]
        trees = all_trees(program, sorted([*known, *fresh]), depth)
        trees = [tree for tree in trees if is_in_order(known, values_in(tree))]
        self.assertFalse(any(fresh[-1] in values_in(tree) for tree in trees), "too few things")
        return tuple(sorted(trees))

    def test_at_random(self):
        source = random.Random(20)
        counts = {1: set(), 2: set(), 3: set()}
        while min(len(each) for each in counts.values()) < 8:
            program = draw_program(source, draw_kinds(source), source.choice(((), (), (0,), (1,))), 2, 3)
            for depth in (1, 2, 3):
                try:
                    trees = plain_trees(program, depth, tries=60)
                except LimitExceeded:
                    break
                known = known_things(program)
                with self.subTest(program=program, depth=depth):
                    self.assertTrue(all(plain_is_tree(program, tree) for tree in trees))
                    self.assertTrue(all(plain_depth(tree) <= depth for tree in trees))
                    self.assertTrue(all(is_in_order(known, values_in(tree)) for tree in trees))
                    self.assertEqual(trees, tuple(sorted(set(trees))))
                    most = max([value for tree in trees for value in values_in(tree)], default=0)
                    if (most + 2) ** 2 * max(1, len(program[1])) <= 60 and most < 6:
                        self.assertEqual(trees, self.all_plain(program, depth, most + 2))
                        counts[depth].add(len(trees))

    def all_plain(self, program, depth, many):
        trees = all_trees(program, range(many), depth)
        return tuple(sorted(tree for tree in trees if is_in_order(known_things(program), values_in(tree))))

    def test_arguments_by_name(self):
        self.assertEqual(plain_trees(tries=1, depth=1, program=ONE_STEP), ((0, (0,), ((),)),))
        self.assertRaises(TypeError, plain_trees, ONE_STEP, 1, 300)


class Limits(Trees):
    def assert_many(self, many, program, depth):
        for tries in (many, many + 1, 1000):
            self.assertEqual(len(plain_trees(program, depth, tries=tries)), many)
        for tries in {1, many // 2, many - 1} - {0, many}:
            self.assert_exceeded(program, depth, tries=tries)

    def test_at_and_beside_the_number_of_trees(self):
        for depth in (1, 2, 3):
            self.assert_many(depth, ONE_STEP, depth)
        # Each part is () or one of the trees that are one less deep: 1, then 2 * 2, then 5 * 5.
        twos = ((0,), (((0, ()), ((0, ()), (0, ())), ()),))
        for depth, many in ((1, 1), (2, 4), (3, 25)):
            self.assert_many(many, twos, depth)
        threes = ((0,), (((0, ()), ((0, ()), (0, ()), (0, ())), ()),))
        for depth, many in ((1, 1), (2, 8), (3, 729)):
            self.assert_many(many, threes, depth)

    def test_no_trees_are_not_more_than_one(self):
        self.assert_answer((), plain_trees, ((1,), ()), 3, tries=1)

    def test_three_hundred_by_default(self):
        # Trees of depth 1 are the ways of all rules: by two known things 151 + 4 * 37 + 1 of them, and one more.
        kinds = (2, 1, 0)
        body = ((0, (-1, -2)), (1, (-3,)))
        rules = [((0, head), body, ()) for head in ((-1, -2), (-1, -3), (-2, -3), (-3, -3))]
        rules.append(((2, ()), ((0, (-1, -2)), (0, (-3, -4))), ()))
        at = require_program((kinds, tuple(sorted([*rules, ((0, (3, 8)), (), ())]))))
        above = require_program((kinds, tuple(sorted([*rules, ((0, (3, 8)), ((1, (-1,)),), ((-1, 3),))]))))
        self.assertEqual(len(plain_trees(at, 1)), 300)
        self.assert_exceeded(above, 1)
        self.assertEqual(len(plain_trees(above, 1, tries=301)), 301)
        self.assert_exceeded(at, 2)

    def test_very_many_trees(self):
        # Each atom of no things brings four new things in, again and again.
        far = ((0, 2), (((0, ()), ((0, ()), (1, (-1, -2)), (1, (-3, -4))), ()),))
        wide = ((0, 2), (
            ((0, ()), ((0, ()), (0, ()), (0, ())), ()),
            ((0, ()), ((1, (-1, -2)), (1, (-3, -4)), (0, ())), ((-4, -3), (-2, -1))),
        ))
        known = ((2, 1), tuple(sorted(
            [((0, (-1, -2)), ((0, (-1, -3)), (0, (-3, -4)), (0, (-4, -2))), ())]
            + [((1, (thing,)), ((1, (thing + 5,)),), ()) for thing in range(5)]
        )))
        for program in (far, wide, known):
            require_program(program)
            for depth in (2, 3):
                self.assert_exceeded(program, depth)
                self.assert_exceeded(program, depth, tries=1000)
        self.assert_many(15, far, 1)

    def test_at_random(self):
        source = random.Random(21)
        for _ in range(80):
            program = draw_program(source, draw_kinds(source), (0, 5), 3, 4)
            for depth in (1, 2, 3):
                try:
                    many = len(plain_trees(program, depth, tries=200))
                except LimitExceeded:
                    break
                if many > 0:
                    self.assert_many(many, program, depth)


class TreeFor(Trees):
    def assert_tree(self, program, facts, fact, depth):
        with self.subTest(program=program, facts=facts, fact=fact, depth=depth):
            tree = answer_leaving_arguments(self, tree_for, program, facts, fact, depth)
            if fact in facts:
                self.assertEqual(repr(tree), "()")
                return
            self.assertTrue(plain_is_tree(program, tree), tree)
            self.assertIs(is_tree(program, tree), True)
            self.assertEqual(plain_root(program, tree), fact)
            self.assertLessEqual(set(plain_leaves(program, tree)), set(facts))
            self.assertLessEqual(plain_depth(tree), depth)

    def assert_none(self, program, facts, fact, depth):
        self.assert_answer(None, tree_for, program, facts, fact, depth)

    def test_a_given_fact(self):
        for depth in range(4):
            self.assert_answer((), tree_for, PROGRAM, ((0, (1, 2)),), (0, (1, 2)), depth)
            # A rule leads to it, too.
            self.assert_answer((), tree_for, PROGRAM, ((2, ()),), (2, ()), depth)
            self.assert_answer((), tree_for, ((1,), ()), ((0, (1,)),), (0, (1,)), depth)

    def test_a_rule_without_atoms(self):
        self.assert_none(PROGRAM, (), (2, ()), 0)
        for depth in (1, 2, 3):
            self.assert_answer(LEAF, tree_for, PROGRAM, (), (2, ()), depth)

    def test_each_depth(self):
        facts = tuple((0, (thing, thing + 1)) for thing in range(9))
        for far in range(2, 10):
            fact = (0, (0, far))
            for depth in range(4):
                if far <= 2 ** depth:
                    self.assert_tree(PROGRAM, facts, fact, depth)
                else:
                    self.assert_none(PROGRAM, facts, fact, depth)

    def test_a_fact_that_is_in_no_round(self):
        facts = ((0, (1, 2)), (0, (2, 1)))
        for depth in range(4):
            self.assert_none(PROGRAM, facts, (0, (1, 1)), depth)
            self.assert_none(PROGRAM, facts, (0, (2, 3)), depth)
            self.assert_none(((1,), ()), (), (0, (2,)), depth)
            self.assert_none(ONE_STEP, ((0, (3,)),), (0, (2,)), depth)

    def test_a_chain_of_rules(self):
        program = ((1,) * 5, tuple(((kind + 1, (-1,)), ((kind, (-1,)),), ()) for kind in range(4)))
        tree = ()
        for kind in range(1, 4):
            tree = (kind - 1, (29,), (tree,))
            for depth in range(4):
                expected = tree if depth >= kind else None
                self.assert_answer(expected, tree_for, program, ((0, (29,)),), (kind, (29,)), depth)
        for depth in range(4):
            self.assert_none(program, ((0, (29,)),), (4, (29,)), depth)

    def test_at_random(self):
        source = random.Random(22)
        found = set()
        for _ in range(250):
            kinds = draw_kinds(source)
            program = draw_program(source, kinds, (0, 1, 2), source.randint(0, 4))
            facts = draw_facts(source, kinds, (0, 1, 2, 17), source.randint(0, 6))
            rounds = plain_rounds(program, facts)
            held = source.sample(rounds[-1], min(8, len(rounds[-1])))
            asked = {*held, *draw_facts(source, kinds, (0, 1, 2, 17, 29), 3)}
            for fact in sorted(asked):
                for depth in range(4):
                    there = fact in rounds[min(depth, len(rounds) - 1)]
                    found.add((there, depth))
                    if there:
                        self.assert_tree(program, facts, fact, depth)
                    else:
                        self.assert_none(program, facts, fact, depth)
        self.assertEqual(len(found), 8)

    def test_arguments_by_name(self):
        self.assertEqual(tree_for(depth=1, fact=(2, ()), facts=(), program=PROGRAM), LEAF)


if __name__ == "__main__":
    unittest.main()
