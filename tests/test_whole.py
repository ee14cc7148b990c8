"""What the document promises over the whole program: its interface by place and by name, and its main guarantees."""

import importlib
import inspect
import random
import unittest

from leadalike.bases import Base
from leadalike.checker import first_fault
from leadalike.claims import decide
from leadalike.comparing import are_alike, parting
from leadalike.enough import least_enough
from leadalike.errors import LimitExceeded, NotThere
from leadalike.mends import cheapest_mend, choices
from leadalike.reasons import is_reason, reason_for
from leadalike.rounds import is_closed, model
from leadalike.texts import format_program, parse_program
from leadalike.translating import translate
from leadalike.trimming import is_needless, needless_conditions, trimmed
from tests.plain_claims import plain_is_so, plain_keeps, plain_model
from tests.randomly import altered, draw_atom, draw_claim, draw_facts, draw_kinds, draw_program, near_program
from tests.samples import answer_leaving_arguments

# The parameters as the interface lists them; those behind a * are passed by name alone and have the default 300.
INTERFACE = {
    "facts": ("is_fact(kinds, value)", "require_facts(kinds, value)", "are_among(facts, others)"),
    "programs": (
        "require_program(value)", "variables_of(rule)", "known_things(program)", "known_by_either(one, other)",
    ),
    "putting": (
        "head_with(rule, values)", "body_with(rule, values)", "is_unlike(rule, values)", "holds(rule, values, facts)",
        "values_for(rule, facts)", "led_by(rule, facts)",
    ),
    "rounds": (
        "next_round(program, facts)", "round_of(program, facts, k)", "is_closed(program, facts)",
        "model(program, facts)",
        "rank_of(program, facts, fact)",
    ),
    "reasons": ("reason_for(program, facts, fact)", "is_reason(program, facts, fact, entries)"),
    "ways": ("ways_of(rule, known)", "facts_of(rule, values)", "way_like(rule, values, known)"),
    "comparing": (
        "is_within(one, other, *, tries=300)", "parting(one, other, *, tries=300)",
        "are_alike(one, other, *, tries=300)",
    ),
    "trimming": (
        "without_rule(program, index)", "without_condition(program, index, place)",
        "is_needless(program, index, place=None, *, tries=300)", "needless_conditions(program, *, tries=300)",
        "trimmed(program, *, tries=300)",
    ),
    "trees": (
        "root_of(program, tree)", "leaves_of(program, tree)", "depth_of(tree)", "is_tree(program, value)",
        "plain_trees(program, depth, *, tries=300)", "tree_for(program, facts, fact, depth)",
    ),
    "enough": ("is_enough(program, k, *, tries=300)", "least_enough(program, *, tries=300)"),
    "mends": (
        "require_wishes(kinds, value)", "keeps(program, wish, *, tries=300)", "require_options(program, value)",
        "choices(program, options)", "with_choice(program, options, choice)",
        "cheapest_mend(program, wishes, options, *, tries=300)",
    ),
    "claims": ("require_claim(claim)", "decide(claim, *, tries=300)"),
    "checker": ("first_fault(certificate)",),
    "translating": ("translate(one, other, paper, facts, fact, entries)",),
    "bases": ("Base(program, *, tries=300)",),
    "texts": ("format_program(program)", "parse_program(text)"),
}
METHODS = (
    "tell(self, fact)", "forget(self, fact)", "put(self, rule)", "drop(self, rule)", "trim(self)", "guard(self, wish)",
    "unguard(self, wish)", "program(self)", "given(self)", "guards(self)", "facts(self)", "deeds(self)",
    "why(self, fact)",
    "only_by(self, fact)", "undo(self)", "back_to(self, count)", "twin(self)",
)
PATH = ((0, (-1, -3)), ((0, (-1, -2)), (0, (-2, -3))), ((-3, -1),))
BEGIN = ((1, (-1,)), ((0, (-1, 7)),), ())
PROGRAM = ((2, 1), (PATH, BEGIN))
OTHER = ((2, 1), (PATH, BEGIN, ((1, (3,)), (), ())))
FACTS = ((0, (1, 2)), (0, (2, 7)))
FACT = (1, (1,))
ENTRIES = ((0, (1, 2, 7)), (1, (1,)))
TREE = (1, (1,), ((0, (1, 2, 7), ((), ())),))
WISHES = (("leads", FACTS, FACT), ("over", PROGRAM))
OPTIONS = (("put", OTHER[1][2], 3), ("drop", PATH, 2))
# An argument for each name of a parameter.
ARGUMENTS = {
    "kinds": PROGRAM[0], "value": FACTS, "facts": FACTS, "others": FACTS, "rule": PATH, "program": PROGRAM,
    "one": PROGRAM, "other": OTHER, "values": (1, 2, 7), "k": 1, "fact": FACT, "entries": ENTRIES, "known": (7,),
    "index": 0, "place": 2, "tree": TREE, "depth": 2, "wish": WISHES[0], "options": OPTIONS, "choice": (0,),
    "wishes": WISHES, "claim": ("within", PROGRAM, OTHER), "certificate": ("shown", ("rounds", PROGRAM, 1), ()),
    "text": "kinds 2 1\nk1(x1) if k0(x1,7)\n", "tries": 1000, "paper": decide(("within", PROGRAM, OTHER))[2],
}
# What may be any value, for the calls that return it.
VALUES = {
    "require_program": PROGRAM, "require_wishes": WISHES, "require_options": OPTIONS, "is_fact": FACT, "is_tree": TREE,
}


def names_in(listed):
    """The names of the parameters of a listed call."""
    inner = listed[listed.index("(") + 1:-1]
    return [word.split("=")[0] for word in inner.split(", ") if word and word != "*"]


def answer(call, arguments, named):
    """The answer, or the error with what it tells; a generator's as a list."""
    try:
        found = call(*arguments, **named)
    except (ValueError, LookupError, RuntimeError, OverflowError) as error:
        return (error.__class__, vars(error))
    return list(found) if inspect.isgenerator(found) else found


class Interface(unittest.TestCase):
    def calls(self):
        for module, listed in INTERFACE.items():
            for each in listed:
                name = each.split("(")[0]
                yield each, getattr(importlib.import_module("leadalike." + module), name)

    def arguments_for(self, listed):
        given = {**ARGUMENTS, "value": VALUES.get(listed.split("(")[0], FACTS)}
        return {name: given[name] for name in names_in(listed)}

    def test_names_arguments_and_defaults(self):
        for listed, call in self.calls():
            with self.subTest(listed):
                self.assertEqual(call.__name__ + str(inspect.signature(call)), listed)
        for listed in METHODS:
            name = listed.split("(")[0]
            self.assertIn(name, vars(Base))
            self.assertEqual(name + str(inspect.signature(vars(Base)[name])), listed)
        for name in ("__len__", "__contains__", "__eq__", "__iadd__"):
            self.assertIn(name, vars(Base))

    def test_each_is_defined_in_its_file(self):
        for module, listed in INTERFACE.items():
            for each in listed:
                found = getattr(importlib.import_module("leadalike." + module), each.split("(")[0])
                self.assertEqual(found.__module__, "leadalike." + module)

    def test_by_name_as_well_as_by_place(self):
        for listed, call in self.calls():
            with self.subTest(listed):
                named = self.arguments_for(listed)
                alone = {"tries": named["tries"]} if "tries" in named else {}
                arguments = [named[name] for name in named if name != "tries"]
                by_name = answer(call, (), dict(reversed(named.items())))
                self.assertEqual(by_name, answer(call, arguments, alone))
                if alone:
                    self.assertRaises(TypeError, call, *arguments, 300)

    def test_arguments_are_left_alone(self):
        for listed, call in self.calls():
            named = self.arguments_for(listed)
            found = answer_leaving_arguments(self, lambda given: answer(call, (), given), named)
            self.assertEqual(found, answer(call, (), named))

    def test_the_examples_by_name(self):
        rule = ((1, (-1,)), ((0, (-1,)),), ())
        program = ((1, 1), (rule,))
        options = (("drop", rule, 5), ("put", ((1, (3,)), (), ()), 2))
        wishes = (("spares", ((0, (4,)),), (1, (4,))),)
        self.assertEqual(list(choices(options=options, program=program)), [(), (1,), (0,), (0, 1)])
        self.assertEqual(cheapest_mend(options=options, wishes=wishes, program=program), (0,))
        self.assertEqual(least_enough(program=((1, 1, 1), (rule, ((2, (-1,)), ((1, (-1,)),), ())))), 2)
        one = ((1, 1, 1), (((1, (-1,)), ((0, (-1,)),), ()),))
        other = ((1, 1, 1), (((1, (-1,)), ((2, (-1,)),), ()), ((2, (-1,)), ((0, (-1,)),), ())))
        verdict, claim, paper = decide(claim=("within", one, other))
        self.assertEqual((verdict, first_fault(certificate=(verdict, claim, paper))), ("shown", None))
        self.assertEqual(translate(
            one=one, other=other, paper=paper, facts=((0, (8,)),), fact=(1, (8,)), entries=((0, (8,)),),
        ), ((1, (8,)), (0, (8,))))
        base = Base(program=((1, 1), (rule,)))
        base.guard(wish=("leads", ((0, (3,)),), (1, (3,))))
        come, gone = base.tell(fact=(0, (5,)))
        self.assertEqual(
            (come, gone, (1, (5,)) in base, base.only_by(fact=(1, (5,))), len(base)),
            (((0, (5,)), (1, (5,))), (), True, ((0, (5,)),), 2),
        )
        text = format_program(program=((2, 0), (((1, ()), ((0, (-1, -2)),), ((-2, -1),)),)))
        self.assertEqual(
            (text, parse_program(text=text)[0]), ("kinds 2 0\nk1() if k0(x1,x2) unless x2 is x1\n", (2, 0)),
        )


class Guarantees(unittest.TestCase):
    def test_programs_of_the_same_kinds(self):
        source = random.Random(100)
        counts = {"within": 0, "apart": 0}
        while min(counts.values()) < 60:
            kinds = draw_kinds(source)
            one = draw_program(source, kinds, source.choice(((), (0,), (1, 5))), source.randint(1, 3), 3)
            other = near_program(source, one)
            try:
                verdict, _, paper = decide(("within", one, other), tries=1000)
            except LimitExceeded:
                continue
            counts["within" if verdict == "shown" else "apart"] += 1
            with self.subTest(one=one, other=other):
                if verdict == "shown":
                    self.assert_translated(source, one, other, paper)
                else:
                    self.assert_apart(one, other, paper)

    def assert_translated(self, source, one, other, paper):
        facts = draw_facts(source, one[0], (0, 1, 2, 5, 17), 6)
        for fact in model(one, facts)[:20]:
            entries = translate(one, other, paper, facts, fact, reason_for(one, facts, fact))
            self.assertTrue(is_reason(other, facts, fact, entries))

    def assert_apart(self, one, other, paper):
        self.assertEqual(paper[:2], parting(one, other, tries=1000))
        facts = paper[2]
        self.assertTrue(is_closed(other, facts))
        self.assertFalse(is_closed(one, facts))

    def test_certificates(self):
        source = random.Random(101)
        for _ in range(300):
            claim = draw_claim(source)
            try:
                certificate = decide(claim)
            except LimitExceeded:
                continue
            self.assertEqual(certificate[1], claim)
            self.assertIsNone(first_fault(certificate))
            self.assertEqual(certificate[0], "shown" if plain_is_so(claim) else "broken")

    def test_whoever_wrote_a_certificate(self):
        source = random.Random(102)
        right = 0
        for _ in range(1500):
            claim = draw_claim(source)
            try:
                verdict, _, paper = decide(claim, tries=100)
            except LimitExceeded:
                continue
            certificate = (source.choice(("shown", "broken", verdict)), claim, altered(source, paper))
            if first_fault(certificate) is None:
                right += 1
                self.assertEqual(certificate[0], "shown" if plain_is_so(claim) else "broken")
        self.assertGreater(right, 20)

    def test_trimmed_programs(self):
        source = random.Random(103)
        many = 0
        for _ in range(250):
            kinds = draw_kinds(source)
            program = draw_program(source, kinds, (0, 1), 2)
            try:
                less = trimmed(program, tries=1000)
                many += less != program
                self.assertTrue(are_alike(program, less, tries=1000))
                self.assertEqual(needless_conditions(less, tries=1000), ())
                self.assertFalse(any(is_needless(less, index, tries=1000) for index in range(len(less[1]))))
            except LimitExceeded:
                continue
            facts = draw_facts(source, kinds, (0, 1, 2, 29), 5)
            self.assertEqual(plain_model(program, facts), plain_model(less, facts))
        self.assertGreater(many, 60)

    def test_live_bases(self):
        source = random.Random(104)
        for _ in range(40):
            kinds = draw_kinds(source)
            base = Base(draw_program(source, kinds, (0, 1), 2, 4), tries=1000)
            for _ in range(30):
                self.one_deed(source, base)
                self.assertEqual(base.facts(), plain_model(base.program(), base.given()))
                for fact in base.facts():
                    self.assertTrue(is_reason(base.program(), base.given(), fact, base.why(fact)))
                self.assertTrue(all(plain_keeps(base.program(), wish) for wish in base.guards()))

    def one_deed(self, source, base):
        kinds, rules = base.program()
        fact = draw_atom(source, kinds, (0, 1, 2))
        other = draw_program(source, kinds, (0, 1), 2, 1)
        deed = source.choice((
            ("tell", fact), ("tell", fact), ("forget", fact), ("drop", rules[0] if rules else None), ("trim", None),
            ("put", other[1][0] if other[1] else None), ("guard", ("leads", base.given()[:3], fact)),
            ("guard", ("spares", base.given()[:3], fact)), ("guard", ("over", base.twin().program())),
        ))
        try:
            if deed[0] == "trim":
                base.trim()
            else:
                getattr(base, deed[0])(deed[1])
            if source.random() < 0.2:
                base.undo()
        except (NotThere, RuntimeError, LimitExceeded):
            pass

    def test_a_base_that_was_trimmed_and_one_that_was_not(self):
        source = random.Random(105)
        for _ in range(40):
            kinds = draw_kinds(source)
            one = Base(draw_program(source, kinds, (0, 1), 2, 4), tries=1000)
            other = one.twin()
            other.trim()
            for _ in range(8):
                fact = draw_atom(source, kinds, (0, 1, 2))
                word = "forget" if fact in one.given() else "tell"
                self.assertEqual(getattr(one, word)(fact), getattr(other, word)(fact))
                self.assertEqual(one.facts(), other.facts())

    def test_texts_of_programs_that_were_trimmed(self):
        source = random.Random(106)
        for _ in range(60):
            program = draw_program(source, draw_kinds(source), (0, 1), 2, 4)
            less = trimmed(program, tries=1000)
            self.assertEqual(parse_program(format_program(less)), less)


if __name__ == "__main__":
    unittest.main()
