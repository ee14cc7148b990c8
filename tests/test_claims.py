import random
import unittest

from leadalike.checker import first_fault
from leadalike.claims import decide, require_claim
from leadalike.comparing import is_within
from leadalike.enough import is_enough
from leadalike.errors import InvalidClaim, LimitExceeded
from leadalike.mends import cheapest_mend
from leadalike.reasons import is_reason
from leadalike.trees import leaves_of, root_of
from leadalike.trimming import is_needless
from tests.plain_claims import plain_first_fault, plain_is_so, plain_model
from tests.plainly import plain_rounds
from tests.randomly import draw_claim
from tests.samples import STRAYS, WITH_300_WAYS, WITH_301_WAYS, WRONG_INTEGERS, answer_leaving_arguments

# Kinds of 2, 1 and 0 things.
KINDS = (2, 1, 0)
FRONT = ((1, (-1,)), ((0, (-1, -2)),), ())
BACK = ((1, (-1,)), ((0, (-2, -1)),), ())
LONG = ((1, (-1,)), ((0, (-1, -2)), (1, (-2,))), ((-2, -1), (-1, 3)))
FLAG = ((2, ()), ((1, (3,)),), ())
PROGRAM = (KINDS, (FRONT, LONG))
OTHER = (KINDS, (FRONT, FLAG))
EMPTY = (KINDS, ())
FACTS = ((0, (1, 2)), (1, (4,)))
FACT = (1, (1,))
WISHES = (("leads", FACTS, (2, ())), ("within", OTHER))
OPTIONS = (("put", FLAG, 4), ("drop", LONG, 0))
CLAIMS = (
    ("leads", PROGRAM, FACTS, FACT), ("leads", EMPTY, (), FACT), ("within", PROGRAM, OTHER), ("within", EMPTY, EMPTY),
    ("needless", PROGRAM, 1, None), ("needless", PROGRAM, 1, 1), ("needless", PROGRAM, 1, 2),
    ("needless", PROGRAM, 1, 3),
    ("rounds", PROGRAM, 0), ("rounds", PROGRAM, 2), ("rounds", EMPTY, 1), ("mend", PROGRAM, WISHES, OPTIONS, None),
    ("mend", PROGRAM, WISHES, OPTIONS, 0), ("mend", PROGRAM, WISHES, OPTIONS, 300),
)
MANY = tuple((0, (one, two)) for one in range(2) for two in range(30))
WRONG_PROGRAMS = STRAYS + (
    (), KINDS, [*PROGRAM], (KINDS,), (KINDS, (LONG, FRONT)), (KINDS, [FRONT]), ((2, 1, False), ()), ((2, 1, 0), None),
    ((2, 1), (FRONT, FLAG)), (KINDS, (FRONT,) * 2), (KINDS, FRONT), PROGRAM + ((),), ((3, 1, 0), ()),
)


class Claims(unittest.TestCase):
    def assert_wrong(self, part, claim):
        for call in (require_claim, decide):
            with self.subTest(call=call.__name__, part=part, claim=repr(claim)[:300]):
                error = answer_leaving_arguments(self, call, claim)
                self.assertIs(error.__class__, InvalidClaim)
                self.assertEqual(error.part, part)


class Example(unittest.TestCase):
    def test_the_answers_of_the_document(self):
        one = ((1, 1, 1), (((1, (-1,)), ((0, (-1,)),), ()),))
        other = ((1, 1, 1), (((1, (-1,)), ((2, (-1,)),), ()), ((2, (-1,)), ((0, (-1,)),), ())))
        verdict, claim, paper = decide(("within", one, other))
        self.assertEqual((verdict, claim), ("shown", ("within", one, other)))
        self.assertEqual(paper, ((((1, (0,)), (0, (0,))),),))
        self.assertEqual(first_fault((verdict, claim, paper)), None)

    def test_each_function_is_defined_in_its_file(self):
        for call in (require_claim, decide):
            self.assertEqual(call.__module__, "leadalike.claims")


class RequireClaim(Claims):
    def test_claims(self):
        for claim in CLAIMS:
            self.assertIs(require_claim(claim), claim)
        self.assertEqual(require_claim(claim=CLAIMS[0]), CLAIMS[0])

    def test_the_kind(self):
        for value in STRAYS + ((),):
            self.assert_wrong("kind", value)
        for claim in CLAIMS:
            for value in (
                [*claim], claim[:-1], claim + (None,), claim[1:], (claim[0],), claim[0], (None, *claim[1:]),
                (claim[0].upper(), *claim[1:]), ([claim[0]], *claim[1:]), ((claim[0],), *claim[1:]), (claim,),
                ("spares", *claim[1:]), ({}, *claim[1:]), (claim[0] + " ", *claim[1:]),
                (0, *claim[1:]), (True, *claim[1:]), ("", *claim[1:]),
            ):
                self.assert_wrong("kind", value)

    def test_the_first_part_that_is_wrong(self):
        names = {
            "leads": ("program", "facts", "fact"), "within": ("one", "other"),
            "needless": ("program", "index", "place"),
            "rounds": ("program", "k"), "mend": ("program", "wishes", "options", "n"),
        }
        for claim in CLAIMS:
            for at, name in enumerate(names[claim[0]], start=1):
                for wrong in (-1, [], ((),), "ab", {}):
                    self.assert_wrong(name, claim[:at] + (wrong,) + claim[at + 1:])
                    self.assert_wrong(name, claim[:at] + (wrong,) * (len(claim) - at))

    def test_programs(self):
        for wrong in WRONG_PROGRAMS:
            self.assert_wrong("program", ("leads", wrong, FACTS, FACT))
            self.assert_wrong("one", ("within", wrong, OTHER))
            self.assert_wrong("one", ("within", wrong, wrong))
            self.assert_wrong("other", ("within", PROGRAM, wrong))
            self.assert_wrong("program", ("needless", wrong, 0, None))
            self.assert_wrong("program", ("rounds", wrong, 1))
            self.assert_wrong("program", ("mend", wrong, WISHES, OPTIONS, 3))

    def test_programs_of_other_kinds(self):
        for kinds in ((2, 1), (2, 1, 0, 0), (1, 2, 0), (2, 2, 2)):
            self.assert_wrong("other", ("within", EMPTY, (kinds, ())))
        for kinds in ((True, 1, 0), [2, 1, 0], (2, 1, False)):
            self.assert_wrong("other", ("within", EMPTY, (kinds, ())))

    def test_facts_and_fact(self):
        for wrong in STRAYS + (
            [*FACTS], FACTS[::-1], FACTS[:1] * 2, (FACTS,), FACT, ((0, (1, True)),), ((2, (1,)),),
            MANY + ((0, (2, 0)),),
            ((0, (1, 30)),), ((True, (1,)),), (*FACTS, None),
        ):
            self.assert_wrong("facts", ("leads", PROGRAM, wrong, FACT))
            self.assert_wrong("facts", ("leads", PROGRAM, wrong, None))
        self.assertTrue(require_claim(("leads", PROGRAM, MANY, FACT)))
        for wrong in STRAYS + (
            (), FACTS, [*FACT], (1, [1]), (1, (30,)), (1, (True,)), (True, (1,)), (1, (1, 1)), (3, ()),
        ):
            self.assert_wrong("fact", ("leads", PROGRAM, FACTS, wrong))

    def test_indices_and_places(self):
        for wrong in WRONG_INTEGERS + (2, 6):
            self.assert_wrong("index", ("needless", PROGRAM, wrong, None))
            self.assert_wrong("index", ("needless", PROGRAM, wrong, wrong))
        self.assert_wrong("index", ("needless", EMPTY, 0, None))
        for wrong in WRONG_INTEGERS + (4, 5):
            if wrong is not None:
                self.assert_wrong("place", ("needless", PROGRAM, 1, wrong))
        # Without the first atom of the rule its variables do not stand in the body.
        self.assert_wrong("place", ("needless", PROGRAM, 1, 0))
        self.assert_wrong("place", ("needless", PROGRAM, 0, 0))
        self.assert_wrong("place", ("needless", PROGRAM, 0, 1))
        self.assert_wrong("place", ("needless", (KINDS, (((2, ()), (), ()),)), 0, 0))
        self.assertTrue(require_claim(("needless", (KINDS, (((2, ()), (), ((1, 2),)),)), 0, 0)))
        self.assertTrue(require_claim(("needless", (KINDS, (FLAG,)), 0, 0)))

    def test_numbers_of_rounds(self):
        for k in range(3):
            self.assertTrue(require_claim(("rounds", PROGRAM, k)))
        for wrong in WRONG_INTEGERS + (3, 4):
            self.assert_wrong("k", ("rounds", PROGRAM, wrong))

    def test_wishes_options_and_costs(self):
        for wrong in STRAYS + ((), WISHES[0], [*WISHES], WISHES * 2, (WISHES[0], None), (("within", ((2,), ())),)):
            self.assert_wrong("wishes", ("mend", PROGRAM, wrong, OPTIONS, 3))
            self.assert_wrong("wishes", ("mend", PROGRAM, wrong, None, True))
        for wrong in STRAYS + ((), OPTIONS[0], [*OPTIONS], OPTIONS * 2, (OPTIONS[0], None), (("put", FRONT, 1),)):
            self.assert_wrong("options", ("mend", PROGRAM, WISHES, wrong, 3))
            self.assert_wrong("options", ("mend", PROGRAM, WISHES, wrong, -1))
        for n in (0, 1, 299, 300, None):
            self.assertTrue(require_claim(("mend", PROGRAM, WISHES, OPTIONS, n)))
        for wrong in WRONG_INTEGERS + (301,):
            if wrong is not None:
                self.assert_wrong("n", ("mend", PROGRAM, WISHES, OPTIONS, wrong))


class Decide(Claims):
    def assert_decided(self, verdict, claim, paper=None, **named):
        with self.subTest(claim=claim, **named):
            found = answer_leaving_arguments(self, decide, claim, **named)
            self.assertEqual(repr(found[:2]), repr((verdict, claim)))
            self.assertEqual(len(found), 3)
            if paper is not None:
                self.assertEqual(repr(found[2]), repr(paper))
            self.assertIsNone(plain_first_fault(found, lambda value: value is found[1]))
            self.assertIsNone(first_fault(found))
            return found[2]

    def test_leads(self):
        self.assert_decided("shown", ("leads", PROGRAM, FACTS, FACTS[0]), ())
        self.assert_decided("shown", ("leads", PROGRAM, FACTS, FACT), ((0, (1, 2)),))
        self.assert_decided("broken", ("leads", EMPTY, FACTS, FACT), FACTS)
        self.assert_decided("broken", ("leads", EMPTY, (), FACT), ())
        self.assert_decided("broken", ("leads", PROGRAM, FACTS, (2, ())), (FACTS[0], FACT, FACTS[1]))
        chain = tuple((0, (thing, thing + 1)) for thing in range(29))
        paths = ((2,), (((0, (-1, -3)), ((0, (-1, -2)), (0, (-2, -3))), ()),))
        found = self.assert_decided("shown", ("leads", paths, chain, (0, (0, 29))))
        self.assertTrue(is_reason(paths, chain, (0, (0, 29)), found))

    def test_within(self):
        self.assert_decided("shown", ("within", EMPTY, OTHER), ())
        self.assert_decided("shown", ("within", (KINDS, (FLAG,)), OTHER), ((((1, ()),),),))
        self.assert_decided("shown", ("within", (KINDS, (FRONT,)), OTHER))
        self.assert_decided("broken", ("within", (KINDS, (FRONT,)), EMPTY), (0, (0, 0), ((0, (0, 0)),)))
        other = (KINDS, (((1, (-1,)), ((0, (-1, -2)),), ((-2, -1),)),))
        self.assert_decided("broken", ("within", (KINDS, (FRONT,)), other), (0, (0, 0), ((0, (0, 0)),)))
        self.assert_decided("shown", ("within", other, (KINDS, (FRONT,))), ((((0, (0, 1)),),),))
        # The first rule is led to, the second one is not from its second way on; the facts are a model.
        one = (KINDS, tuple(sorted((FRONT, ((2, ()), ((1, (-1,)),), ())))))
        self.assert_decided("broken", ("within", one, OTHER), (1, (0,), ((1, (0,)),)))
        more = (KINDS, (FRONT, FLAG, ((2, ()), ((1, (0,)),), ((5, 6),))))
        self.assert_decided("broken", ("within", one, (KINDS, tuple(sorted(more[1])))), (1, (1,), ((1, (1,)),)))

    def test_needless(self):
        self.assert_decided("shown", ("needless", PROGRAM, 1, None))
        self.assert_decided("broken", ("needless", PROGRAM, 0, None), ((0, 0), ((0, (0, 0)),)))
        self.assert_decided("shown", ("needless", PROGRAM, 1, 1))
        self.assert_decided("shown", ("needless", PROGRAM, 1, 2))
        program = (KINDS, (((2, ()), ((0, (-1, 5)), (1, (-1,))), ()),))
        self.assert_decided("broken", ("needless", program, 0, None), ((0,), ((0, (0, 5)), (1, (0,)))))
        self.assert_decided("broken", ("needless", program, 0, 0), ((0,), ((1, (0,)),)))
        self.assert_decided("broken", ("needless", program, 0, 1), ((0,), ((0, (0, 5)),)))
        twice = (KINDS, (((2, ()), ((0, (-1, 5)), (0, (-2, 5))), ()),))
        self.assert_decided("shown", ("needless", twice, 0, 0), (((0, (0, 0)),), ((0, (5, 5)),)))
        self.assert_decided("shown", ("needless", (KINDS, (((2, ()), (), ((1, 2),)),)), 0, 0), (((0, ()),),))

    def test_rounds(self):
        self.assert_decided("shown", ("rounds", EMPTY, 0), ())
        chain = ((1, 1, 1), (((1, (-1,)), ((0, (-1,)),), ()), ((2, (-1,)), ((1, (-1,)),), ())))
        first, second = (0, (0,), ((),)), (1, (0,), ((),))
        high = (1, (0,), (first,))
        facts = ((0, (0,)), (1, (0,)))
        self.assert_decided("broken", ("rounds", chain, 0), (first, ()))
        self.assert_decided("broken", ("rounds", chain, 1), (high, (facts,)))
        self.assert_decided("shown", ("rounds", chain, 2), (first, second, high))
        paths = ((2,), (((0, (-1, -3)), ((0, (-1, -2)), (0, (-2, -3))), ()),))
        self.assert_decided("broken", ("rounds", paths, 1))
        own = ((1,), (((0, (-1,)), ((0, (-1,)),), ()),))
        self.assert_decided("shown", ("rounds", own, 0), ((),))
        self.assert_decided("shown", ("rounds", own, 2), ((), (), ()))

    def test_mend(self):
        leads = ("leads", ((1, (3,)),), (2, ()))
        program, options = (KINDS, (FRONT,)), (("put", FLAG, 4), ("drop", FRONT, 1))
        none = ((1, (3,)),)
        claim = ("mend", program, (leads,), options)
        self.assert_decided("shown", (*claim, 4), ((0,), (((1, ()),),), ((0, none), (0, none))))
        self.assert_decided("broken", (*claim, None), ("less", (0,), (((1, ()),),)))
        self.assert_decided("broken", (*claim, 5), ("less", (0,), (((1, ()),),)))
        self.assert_decided("broken", (*claim, 3), ("more", ((0, none), (0, none))))
        self.assert_decided("broken", (*claim, 1), ("more", ((0, none), (0, none))))
        self.assert_decided("broken", (*claim, 0), ("more", ((0, none),)))
        both = (leads, ("spares", ((1, (3,)),), (2, ())))
        breaks = ((0, none), (0, none), (1, ((1, ()),)), (1, ((0, ()),)))
        self.assert_decided("shown", ("mend", program, both, options, None), breaks)
        self.assert_decided("broken", ("mend", program, both, options, 300), ("more", breaks))
        self.assert_decided("broken", ("mend", program, both, options, 4), ("more", breaks[:3]))

    def test_mend_with_programs(self):
        program, options = (KINDS, (FRONT,)), (("put", FLAG, 0), ("drop", FRONT, 0))
        wishes = (("within", (KINDS, (FLAG,))), ("over", (KINDS, (FLAG,))), ("spares", (), (2, ())))
        broken = (0, (0, (0, 0), ((0, (0, 0)),)))
        # With the choice (0,) there is the known thing 3; the choice (0, 1) costs as little as the others.
        found = self.assert_decided("shown", ("mend", program, wishes, options, 0))
        self.assertEqual(found, ((0, 1), (((((0, ()),),),), ((((0, ()),),),), ()), ()))
        found = self.assert_decided("broken", ("mend", program, wishes, options, None))
        self.assertEqual(found[:2], ("less", (0, 1)))
        wishes = (("within", EMPTY), ("leads", (), (2, ())))
        found = self.assert_decided("shown", ("mend", program, wishes, options, None))
        self.assertEqual([index for index, _ in found], [0, 0, 0, 1])
        self.assertEqual(found[3], (1, ()))
        self.assertEqual((0, found[0][1]), broken)

    def test_choices_of_the_same_cost_before_the_first_that_mends(self):
        # The claimed cost is that of the first choice that mends; those before it that cost as much are not asked for.
        leads = ("leads", (), (2, ()))
        options = (("put", FLAG, 2), ("put", ((2, ()), (), ()), 2), ("drop", FRONT, 1))
        program = (KINDS, (FRONT,))
        found = self.assert_decided("shown", ("mend", program, (leads,), options, 2))
        self.assertEqual((found[0], len(found[2])), ((1,), 2))
        found = self.assert_decided("broken", ("mend", program, (leads,), options, 1))
        self.assertEqual((found[0], len(found[1])), ("more", 2))

    def test_at_random(self):
        source = random.Random(50)
        counts = {}
        while len(counts) < 10 or min(counts.values()) < 12:
            claim = draw_claim(source)
            is_so = plain_is_so(claim)
            if is_so is None:
                self.assertRaises(LimitExceeded, decide, claim, tries=1000)
                continue
            verdict = "shown" if is_so else "broken"
            paper = self.assert_decided(verdict, claim, tries=1000)
            counts[claim[0], verdict] = counts.get((claim[0], verdict), 0) + 1
            if claim[0] == "leads":
                self.assert_leads(claim, verdict, paper)
            if claim[0] == "rounds" and verdict == "broken":
                self.assert_late(claim, paper)

    def assert_leads(self, claim, verdict, paper):
        _, program, facts, fact = claim
        if verdict == "shown":
            self.assertTrue(is_reason(program, facts, fact, paper))
        else:
            self.assertEqual(paper, plain_model(program, facts))

    def assert_late(self, claim, paper):
        _, program, k = claim
        rounds = plain_rounds(program, leaves_of(program, paper[0]))
        self.assertNotIn(root_of(program, paper[0]), rounds[min(k, len(rounds) - 1)])

    def test_arguments_by_name(self):
        self.assertEqual(decide(tries=2, claim=("within", EMPTY, EMPTY)), ("shown", ("within", EMPTY, EMPTY), ()))
        self.assertRaises(TypeError, decide, ("within", EMPTY, EMPTY), 300)


class Limits(Claims):
    def assert_limits(self, claim, call, *arguments, **named):
        """The call raises for some tries; decide does for the same ones, and for no others."""
        last = None
        for tries in (1, 2, 3, 5, 9, 14, 15, 16, 17, 30, 60, 100, 299, 300, 301, 600, 1000):
            with self.subTest(claim=claim, tries=tries):
                expected = answer_leaving_arguments(self, call, *arguments, tries=tries, **named)
                found = answer_leaving_arguments(self, decide, claim, tries=tries)
                last = expected.__class__ is LimitExceeded
                self.assertEqual(last, found.__class__ is LimitExceeded)
                if last:
                    self.assertEqual(found.limit, tries)
        return last

    def test_as_the_functions_raise(self):
        wide = ((2, ()), ((0, (-1, -2)), (0, (-3, -4))), ())
        one, other = (KINDS, (FRONT, LONG, wide)), (KINDS, (FRONT, FLAG, wide))
        for first, second in ((one, other), (other, one), (one, one), (PROGRAM, OTHER), (EMPTY, one)):
            first = (KINDS, tuple(sorted(first[1])))
            second = (KINDS, tuple(sorted(second[1])))
            self.assert_limits(("within", first, second), is_within, first, second)
        for program in (one, PROGRAM, WITH_300_WAYS):
            program = (KINDS, tuple(sorted(program[1])))
            for index in range(len(program[1])):
                self.assert_limits(("needless", program, index, None), is_needless, program, index)
            for k in range(3):
                self.assert_limits(("rounds", program, k), is_enough, program, k)
        last = len(PROGRAM[1]) - 1
        for place in (1, 2, 3):
            self.assert_limits(("needless", PROGRAM, last, place), is_needless, PROGRAM, last, place)
        options = (("put", wide, 1), ("put", FLAG, 2))
        leads = ("leads", ((1, (3,)),), (2, ()))
        over = ("over", (KINDS, tuple(sorted(one[1]))))
        for wishes in ((leads, ("within", PROGRAM)), (("within", PROGRAM), leads), (over, leads)):
            for n in (None, 0, 1, 2, 3, 300):
                claim = ("mend", PROGRAM, wishes, options, n)
                self.assert_limits(claim, cheapest_mend, PROGRAM, wishes, options)

    def test_leads_has_no_limit(self):
        self.assertEqual(decide(("leads", PROGRAM, FACTS, FACT), tries=1)[0], "shown")

    def test_three_hundred_by_default(self):
        at, above = WITH_300_WAYS, WITH_301_WAYS
        self.assertEqual(decide(("within", at, at))[0], "shown")
        self.assertEqual(decide(("rounds", at, 0))[0], "broken")
        options = (("drop", above[1][0], 0),)
        for claim in (
            ("within", above, above), ("within", above, (KINDS, ())), ("rounds", above, 0), ("rounds", at, 1),
            ("mend", above, (("over", above),), options, 0),
        ):
            self.assertRaises(LimitExceeded, decide, claim)
            if claim != ("rounds", at, 1):
                self.assertEqual(len(decide(claim, tries=301)), 3)

    def test_an_invalid_claim_comes_first(self):
        self.assert_wrong("other", ("within", WITH_301_WAYS, ((2,), ())))

    def test_at_random(self):
        source = random.Random(51)
        for _ in range(60):
            claim = draw_claim(source)
            word, *parts = claim
            call = {"within": is_within, "needless": is_needless, "rounds": is_enough, "mend": cheapest_mend}.get(word)
            if call is not None:
                self.assert_limits(claim, call, *parts[:3])


if __name__ == "__main__":
    unittest.main()
