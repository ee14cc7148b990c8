import random
import unittest

from leadalike.checker import first_fault
from leadalike.claims import decide
from leadalike.errors import LimitExceeded
from leadalike.programs import known_by_either, require_program
from leadalike.reasons import is_reason, reason_for
from leadalike.translating import translate
from leadalike.trimming import trimmed
from leadalike.ways import facts_of, ways_of
from tests.plainly import plain_fact, plain_is_reason, plain_rounds, plain_values_for
from tests.randomly import draw_facts, draw_kinds, draw_program, near_program
from tests.samples import answer_leaving_arguments

# The kind 0 has the paths over the kind 1, made longer by one step, or put together.
STEP = ((0, (-1, -2)), ((1, (-1, -2)),), ())
LAST = ((0, (-1, -3)), ((0, (-1, -2)), (1, (-2, -3))), ())
BOTH = ((0, (-1, -3)), ((0, (-1, -2)), (0, (-2, -3))), ())
BY_END = ((2, 2), (LAST, STEP))
BY_BOTH = ((2, 2), (BOTH, STEP))


class Translating(unittest.TestCase):
    def assert_translated(self, one, other, facts, fact, entries, paper=None):
        if paper is None:
            paper = self.paper_for(one, other)
        self.assertTrue(plain_is_reason(one, facts, fact, entries))
        with self.subTest(one=one, other=other, facts=facts, fact=fact, entries=entries[:9]):
            found = answer_leaving_arguments(self, translate, one, other, paper, facts, fact, entries)
            self.assertTrue(plain_is_reason(other, facts, fact, found), found)
            heads = [plain_fact(other[1][index], other[1][index][0], values) for index, values in found]
            self.assertEqual(len(set(heads)), len(heads))
            return found

    def paper_for(self, one, other):
        verdict, claim, paper = decide(("within", one, other), tries=1000)
        self.assertEqual((verdict, first_fault((verdict, claim, paper))), ("shown", None))
        return paper

    def other_paper(self, source, one, other):
        """A right paper with entries that are not needed, before, among and behind those that are."""
        known = known_by_either(one, other)
        paper = []
        for rule, reasons in zip(one[1], self.paper_for(one, other)):
            longer = []
            for values, reason in zip(ways_of(rule, known), reasons):
                longer.append(longer_reason(source, other, facts_of(rule, values), reason))
            paper.append(tuple(longer))
        self.assertIsNone(first_fault(("shown", ("within", one, other), tuple(paper))))
        return tuple(paper)


def longer_reason(source, program, facts, reason):
    """The reason with other entries before it, with its entries told twice, and with the last one at its end again."""
    found = list(reason)
    there = list(facts)
    for _ in range(source.randint(0, 3)):
        could = [(index, values) for index, rule in enumerate(program[1]) for values in plain_values_for(rule, there)]
        if could:
            index, values = source.choice(could)
            rule = program[1][index]
            there.append(plain_fact(rule, rule[0], values))
            found.insert(len(found) - len(reason), (index, values))
    if reason:
        found += source.sample(reason, source.randint(0, len(reason))) + [reason[-1]]
    elif found:
        return reason
    return tuple(found)


class Example(Translating):
    def test_the_answers_of_the_document(self):
        one = ((1, 1, 1), (((1, (-1,)), ((0, (-1,)),), ()),))
        other = ((1, 1, 1), (((1, (-1,)), ((2, (-1,)),), ()), ((2, (-1,)), ((0, (-1,)),), ())))
        _, _, paper = decide(("within", one, other))
        facts, fact = ((0, (8,)),), (1, (8,))
        self.assertEqual(translate(one, other, paper, facts, fact, ((0, (8,)),)), ((1, (8,)), (0, (8,))))

    def test_the_function_is_defined_in_its_file(self):
        self.assertEqual(translate.__module__, "leadalike.translating")

    def test_arguments_by_name(self):
        one = ((1, 1), (((1, (-1,)), ((0, (-1,)),), ()),))
        self.assertEqual(translate(
            entries=((0, (29,)),), fact=(1, (29,)), facts=((0, (29,)),), paper=((((0, (0,)),),),), other=one, one=one,
        ), ((0, (29,)),))


class Translate(Translating):
    def test_given_facts(self):
        facts = ((1, (1, 2)),)
        self.assertEqual(self.assert_translated(BY_END, BY_BOTH, facts, facts[0], ()), ())
        # A given fact to which the rules lead as well.
        facts = ((0, (1, 2)), (1, (1, 2)))
        self.assert_translated(BY_END, BY_BOTH, facts, (0, (1, 2)), ((1, (1, 2)),))

    def test_long_reasons(self):
        chain = tuple((1, (thing, thing + 1)) for thing in range(29))
        fact = (0, (0, 29))
        entries = reason_for(BY_END, chain, fact)
        found = self.assert_translated(BY_END, BY_BOTH, chain, fact, entries)
        self.assertGreaterEqual(len(found), len(entries))

    def test_an_entry_may_need_none_at_all(self):
        one = ((1, 1), (((1, (-1,)), ((0, (-1,)),), ()), ((1, (-1,)), ((1, (-1,)),), ())))
        other = ((1, 1), one[1][:1])
        facts = ((0, (7,)), (0, (9,)))
        self.assert_translated(one, other, facts, (1, (9,)), ((0, (9,)), (1, (9,)), (1, (9,))))
        self.assert_translated(one, other, facts, (1, (9,)), ((0, (7,)), (0, (9,)), (1, (7,)), (1, (9,))))

    def test_entries_that_are_not_needed_and_told_twice(self):
        facts = ((1, (1, 2)), (1, (2, 3)), (1, (3, 1)))
        step, more = (1, (1, 2)), (0, (1, 2, 3))
        for entries in (
            (step, step, more), ((1, (3, 1)), step, more), (step, more, step, more), (step, more, (0, (1, 3, 1)), more),
        ):
            found = self.assert_translated(BY_END, BY_BOTH, facts, (0, (1, 3)), entries)
            self.assertLessEqual(len(found), 5)

    def test_known_things_keep_their_names(self):
        one = ((2, 1), (((1, (-1,)), ((0, (-1, 0)),), ()), ((1, (-1,)), ((0, (-1, 4)), (0, (-1, -2))), ((-2, 2),))))
        other = ((2, 1), (((1, (-1,)), ((0, (-1, -2)),), ()),))
        for thing in range(30):
            facts = ((0, (thing, 0)), (0, (thing, 4)))
            for entries in (((0, (thing,)),), ((1, (thing, 0)),), ((1, (thing, 4)),)):
                self.assert_translated(one, other, facts, (1, (thing,)), entries)

    def test_new_things_that_are_named_as_those_of_a_way(self):
        # The way has the things 0 and 1; the values have them the other way about.
        one = ((2, 2), (((1, (-1, -2)), ((0, (-1, -2)), (0, (-2, -3))), ((-2, -1),)),))
        other = ((2, 2), (((1, (-1, -2)), ((0, (-1, -2)),), ()),))
        for values in ((1, 0, 2), (1, 0, 0), (2, 1, 0), (0, 2, 1), (29, 0, 1), (1, 2, 1)):
            facts = tuple(sorted({(0, values[:2]), (0, values[1:])}))
            found = self.assert_translated(one, other, facts, (1, values[:2]), ((0, values),))
            self.assertEqual(found, ((0, values[:2]),))

    def test_at_random(self):
        source = random.Random(70)
        counts = {"given": 0, "one": 0, "more": 0}
        while min(counts.values()) < 12:
            kinds = draw_kinds(source)
            one = draw_program(source, kinds, source.choice(((), (0,), (1, 5))), source.randint(1, 3), 3)
            other = near_program(source, one)
            other = (kinds, tuple(sorted({*other[1], *source.sample(one[1], min(2, len(one[1])))}))[:6])
            try:
                if decide(("within", one, other), tries=1000)[0] != "shown":
                    continue
            except LimitExceeded:
                continue
            papers = [self.paper_for(one, other), self.other_paper(source, one, other)]
            facts = draw_facts(source, kinds, (0, 1, 2, 5, 17), source.randint(0, 7))
            rounds = plain_rounds(one, facts)
            for fact in source.sample(rounds[-1], min(5, len(rounds[-1]))):
                entries = reason_for(one, facts, fact)
                counts["given" if not entries else "one" if len(entries) == 1 else "more"] += 1
                for paper in papers:
                    self.assert_translated(one, other, facts, fact, entries, paper)
                    longer = longer_reason(source, one, facts, entries)
                    if is_reason(one, facts, fact, longer):
                        self.assert_translated(one, other, facts, fact, longer, paper)

    def test_to_the_trimmed_program_and_back(self):
        source = random.Random(71)
        many = 0
        while many < 60:
            kinds = draw_kinds(source)
            program = draw_program(source, kinds, (0, 1), 3, 4)
            try:
                other = require_program(trimmed(program))
                papers = [self.paper_for(program, other), self.paper_for(other, program)]
            except LimitExceeded:
                continue
            facts = draw_facts(source, kinds, (0, 1, 2, 17), 6)
            for fact in plain_rounds(program, facts)[-1][:12]:
                for first, second, paper in ((program, other, papers[0]), (other, program, papers[1])):
                    entries = reason_for(first, facts, fact)
                    self.assert_translated(first, second, facts, fact, entries, paper)
                    many += len(entries) > 0

    def test_long_reasons_in_reasonable_time(self):
        # All of 900 facts, each by many entries.
        facts = tuple((1, (thing, (thing + 1) % 30)) for thing in range(30))
        entries = []
        for far in range(1, 31):
            for thing in range(30):
                values = (thing, (thing + far - 1) % 30, (thing + far) % 30)
                entries.append((1, values[1:]) if far == 1 else (0, values))
        self.assertEqual(len(entries), 900)
        fact = plain_fact(LAST, LAST[0], entries[-1][1])
        self.assert_translated(BY_END, BY_BOTH, facts, fact, tuple(entries) * 6)


if __name__ == "__main__":
    unittest.main()
