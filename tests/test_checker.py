import random
import unittest

from leadalike.checker import first_fault
from leadalike.claims import decide, require_claim
from leadalike.errors import InvalidClaim, LimitExceeded
from leadalike.programs import known_things, require_program
from leadalike.ways import ways_of
from tests.plain_claims import plain_first_fault, plain_is_so
from tests.randomly import altered, draw_claim, nudged
from tests.samples import STRAYS, WRONG_INTEGERS, answer_leaving_arguments, nested_in_lists, nested_in_tuples

# All paths of the kind 0; the kind 1 has the things at which two unlike ones begin.
PATH = ((0, (-1, -3)), ((0, (-1, -2)), (0, (-2, -3))), ((-3, -1),))
BEGIN = ((1, (-1,)), ((0, (-1, -2)), (0, (-1, -3))), ((-3, -2),))
KINDS = (2, 1)
PATHS = (KINDS, (PATH, BEGIN))
GIVEN = ((0, (1, 2)), (0, (2, 3)), (0, (3, 4)))
FAR = (0, (1, 4))
LEADS = ("leads", PATHS, GIVEN, FAR)
# The kind 1 comes of 0, the kind 2 of 1, by a pair of rules and by one for each case.
ONE = ((1, (-1,)), ((0, (-1,)),), ())
TWO = ((2, (-1,)), ((1, (-1,)),), ())
SHORT = ((2, (-1,)), ((0, (-1,)),), ())
CHAIN = ((1, 1, 1), (ONE, TWO))
ALL = ((1, 1, 1), tuple(sorted((ONE, TWO, SHORT))))
FLAG = ((2, (3,)), (), ())
# By four known things 799 + 141 + 26 + 26 + 4 + 4 ways, and one more; each rule leads to a fact of its body.
EACH = (
    ((0, (-1, -2)), ((0, (-1, -2)), (0, (-3, -4))), ()), ((0, (-1, -2)), ((0, (-1, -2)), (1, (-3,))), ()),
    ((0, (-1, -2)), ((0, (-1, -2)),), ((0, 1), (2, 3))), ((1, (-1,)), ((1, (-1,)), (1, (-2,))), ()),
    ((1, (-1,)), ((1, (-1,)),), ((-1, 0),)),
)
WITH_1000_WAYS = require_program(((2, 1), tuple(sorted((*EACH, ((0, (-1, -1)), ((0, (-1, -1)),), ((-1, 1),)))))))
WITH_1001_WAYS = require_program(((2, 1), tuple(sorted((*EACH, ((0, (-1, -1)), ((0, (-1, -1)),), ()))))))


def is_claim(value):
    try:
        require_claim(value)
    except InvalidClaim:
        return False
    return True


class Checker(unittest.TestCase):
    def assert_fault(self, fault, verdict, claim, paper):
        """Both the program and the plain definition tell the fault, or None."""
        self.assert_first(fault, (verdict, claim, paper))

    def assert_first(self, fault, certificate):
        with self.subTest(certificate=repr(certificate)[:400]):
            self.assertEqual(repr(plain_first_fault(certificate, is_claim)), repr(fault))
            self.assertEqual(repr(answer_leaving_arguments(self, first_fault, certificate)), repr(fault))

    def assert_no_form(self, verdict, claim, *papers):
        for paper in papers:
            self.assert_fault(("paper",), verdict, claim, paper)


class Example(unittest.TestCase):
    def test_the_answers_of_the_document(self):
        one = ((1, 1, 1), (((1, (-1,)), ((0, (-1,)),), ()),))
        other = ((1, 1, 1), (((1, (-1,)), ((2, (-1,)),), ()), ((2, (-1,)), ((0, (-1,)),), ())))
        verdict, claim, paper = decide(("within", one, other))
        self.assertEqual((verdict, first_fault((verdict, claim, paper))), ("shown", None))
        self.assertIsNone(first_fault(certificate=(verdict, claim, paper)))

    def test_the_function_is_defined_in_its_file(self):
        self.assertEqual(first_fault.__module__, "leadalike.checker")


class Form(Checker):
    def test_what_is_no_triple(self):
        right = decide(LEADS)
        for value in STRAYS + ((), right[:2], right + (None,), [*right], {0: right}, (right,), "abcd", GIVEN[:2]):
            self.assert_first(("form",), value)

    def test_what_is_no_claim(self):
        verdict, claim, paper = decide(LEADS)
        for wrong in STRAYS + (
            (), [*claim], claim[:-1], ("leads", PATHS, GIVEN[::-1], FAR), ("within", PATHS, CHAIN), GIVEN,
            ("rounds", PATHS, 3), ("needless", PATHS, 0, 0), ("rounds", PATHS, True), ("mend", PATHS, (), (), 0),
        ):
            for each in (verdict, "broken", None, True):
                self.assert_first(("claim",), (each, wrong, paper))
                self.assert_first(("claim",), (each, wrong, None))

    def test_the_verdict(self):
        for claim in (LEADS, ("within", CHAIN, ALL), ("needless", ALL, 1, None), ("rounds", CHAIN, 2)):
            verdict, _, paper = decide(claim)
            for wrong in STRAYS + ("Shown", "shown ", ["shown"], ("shown",), b"shown", "SHOWN", {}, "broken?"):
                self.assert_first(("paper",), (wrong, claim, paper))
            self.assert_first(("paper",), ("broken" if verdict == "shown" else "shown", claim, paper))

    def test_the_verdict_exchanged(self):
        self.assert_fault(("misses",), "shown", ("leads", PATHS, GIVEN, (1, (2,))), ())
        self.assert_fault(("given", (0, (1, 2))), "broken", ("leads", PATHS, GIVEN, (0, (1, 2))), ())
        self.assert_fault(("there",), "broken", ("leads", PATHS, (), (0, (1, 2))), ((0, (1, 2)),))
        self.assert_fault(("paper",), "broken", LEADS, decide(LEADS)[2])

    def test_it_never_raises(self):
        source = random.Random(60)
        for _ in range(300):
            right = decide(draw_small_claim(source), tries=1000)
            value = right
            for _ in range(source.randint(1, 3)):
                value = altered(source, value)
            self.assert_first(plain_first_fault(value, is_claim), value)

    def test_deep_and_large_values(self):
        own = ((1,), (((0, (-1,)), ((0, (-1,)),), ()),))
        chain = ()
        for _ in range(2000):
            chain = (0, (0,), (chain,))
        self.assertEqual(first_fault(("shown", ("rounds", own, 1), (chain, ()))), ("tree", 0, ("deep",)))
        self.assertEqual(first_fault(("broken", ("rounds", own, 1), (chain, ((),)))), ("deep",))
        for value in (nested_in_tuples(40), nested_in_lists(40), ((),) * 900000, (0,) * 900000):
            for claim in (LEADS, ("within", CHAIN, ALL), ("rounds", CHAIN, 1), ("needless", ALL, 1, None)):
                for verdict in ("shown", "broken"):
                    self.assertEqual(first_fault((verdict, claim, value)), ("paper",))
            self.assertEqual(first_fault((value, value, value)), ("claim",))
            self.assertEqual(first_fault(value), ("form",))
        many = tuple((0, (1, 2, 3)) for _ in range(5401))
        self.assertEqual(first_fault(("shown", LEADS, many)), ("paper",))
        self.assertEqual(first_fault(("shown", LEADS, many[:5400])), ("misses",))


class Leads(Checker):
    def test_reasons(self):
        for reason in (
            ((0, (1, 2, 3)), (0, (1, 3, 4))), ((0, (2, 3, 4)), (0, (1, 2, 4))),
            ((0, (1, 2, 3)), (0, (1, 2, 3)), (0, (2, 3, 4)), (1, (1, 2, 3)), (0, (1, 3, 4))),
        ):
            self.assert_fault(None, "shown", LEADS, reason)
        self.assert_fault(None, "shown", ("leads", PATHS, GIVEN, GIVEN[1]), ())
        # A fact that is given may be led to as well.
        given = (*GIVEN[:2], (0, (1, 3)))
        self.assert_fault(None, "shown", ("leads", PATHS, tuple(sorted(given)), (0, (1, 3))), ((0, (1, 2, 3)),))

    def test_what_is_no_reason_at_all(self):
        good = (0, (1, 2, 3))
        for wrong in STRAYS + (
            (), (0,), (0, (1, 2, 3), ()), [*good], (2, (1, 2, 3)), (-1, (1, 2, 3)), (0, (1, 2)), (0, (1, 2, 3, 4)),
            (0, [1, 2, 3]), (0, (1, 2, 30)), (0, (1, -1, 3)), (True, (1, 2, 3)), (False, (1, 2, 3)), (0, (True, 2, 3)),
            (0, None), (None, (1, 2, 3)), ((0, (1, 2, 3)),),
        ):
            self.assert_no_form("shown", LEADS, (wrong,), (good, wrong), (wrong, good))
        self.assert_no_form("shown", LEADS, None, [], [good], good, "", {}, 0, True)
        # The form of the whole comes before the faults of the entries.
        self.assert_no_form("shown", LEADS, ((0, (1, 1, 1)), good, None))

    def test_entries(self):
        first, last = (0, (1, 2, 3)), (0, (1, 3, 4))
        self.assert_fault(("entry", 0), "shown", LEADS, (last, first))
        self.assert_fault(("entry", 0), "shown", LEADS, (last,))
        self.assert_fault(("entry", 1), "shown", LEADS, (first, (0, (1, 3, 9))))
        self.assert_fault(("entry", 1), "shown", LEADS, (first, (1, (1, 2, 2)), last))
        self.assert_fault(("entry", 0), "shown", LEADS, ((0, (1, 2, 1)), last))
        self.assert_fault(("entry", 2), "shown", LEADS, (first, last, (0, (4, 1, 2)), (0, (9, 9, 9))))

    def test_misses(self):
        first, last = (0, (1, 2, 3)), (0, (1, 3, 4))
        self.assert_fault(("misses",), "shown", LEADS, ())
        self.assert_fault(("misses",), "shown", LEADS, (first,))
        self.assert_fault(("misses",), "shown", LEADS, (first, last, first))
        self.assert_fault(("misses",), "shown", ("leads", PATHS, GIVEN, GIVEN[0]), (first,))

    def test_facts(self):
        claim = ("leads", PATHS, GIVEN, (0, (4, 1)))
        facts = decide(claim)[2]
        self.assertEqual(len(facts), 8)
        self.assert_fault(None, "broken", claim, facts)
        more = tuple(sorted((*facts, (1, (29,)), (0, (7, 7)))))
        self.assert_fault(None, "broken", claim, more)
        self.assert_fault(("given", (0, (1, 2))), "broken", claim, ())
        self.assert_fault(("given", (0, (2, 3))), "broken", claim, tuple(each for each in facts if 3 not in each[1]))
        for at, fact in enumerate(facts):
            less = facts[:at] + facts[at + 1:]
            self.assert_fault(("given" if fact in GIVEN else "open", fact), "broken", claim, less)
        self.assert_fault(("open", (0, (1, 3))), "broken", claim, GIVEN)
        # All that are missing come behind what one round leads to.
        self.assert_fault(("open", (0, (1, 4))), "broken", claim, tuple(sorted((*GIVEN, (0, (1, 3))))))
        self.assert_fault(("there",), "broken", LEADS, facts)
        self.assert_fault(("given", FAR), "broken", ("leads", PATHS, (FAR,), FAR), ())

    def test_what_is_no_set_of_facts(self):
        claim = ("leads", PATHS, GIVEN, (0, (4, 1)))
        facts = decide(claim)[2]
        self.assert_no_form(
            "broken", claim, None, [*facts], facts[::-1], facts + facts[-1:], facts + (None,), facts[:1] * 2, FAR,
            ((0, (1, True)),), ((True, (1,)),), ((0, (1, 30)),), ((2, ()),), ((0, (1,)),), (facts,), {}, "", 7,
        )


class Ways(Checker):
    # Two ways: one thing twice, and two of them.
    claim = ("within", ((2, 1), (((1, (-1,)), ((0, (-1, -2)),), ()),)), ((2, 1), (((1, (-1,)), ((0, (-1, -2)),), ()),)))
    two = ("within", CHAIN, ALL)

    def test_shown(self):
        self.assert_fault(None, "shown", self.claim, ((((0, (0, 0)),), ((0, (0, 1)),)),))
        self.assert_fault(None, "shown", self.two, ((((0, (0,)),),), (((2, (0,)),),)))
        self.assert_fault(None, "shown", self.two, ((((0, (0,)), (0, (0,))),), (((2, (0,)), (2, (0,))),)))
        self.assert_fault(None, "shown", ("within", ((1,), ()), ((1,), ())), ())
        body = ("within", ((1, 1, 1), (((1, (-1,)), ((1, (-1,)),), ()),)), CHAIN)
        self.assert_fault(None, "shown", body, (((),),))

    def test_rules_and_ways(self):
        right, wrong = ((0, (0, 0)),), ((0, (0, 1)),)
        self.assert_fault(("rule", 0, 0, ("entry", 0)), "shown", self.claim, ((wrong, wrong),))
        self.assert_fault(("rule", 0, 1, ("entry", 0)), "shown", self.claim, ((right, right),))
        self.assert_fault(("rule", 0, 0, ("misses",)), "shown", self.claim, (((), wrong),))
        self.assert_fault(("rule", 0, 1, ("entry", 1)), "shown", self.claim, ((right, wrong + ((0, (1, 1)),)),))
        self.assert_fault(("rule", 1, 0, ("misses",)), "shown", self.two, ((((0, (0,)),),), ((),)))
        self.assert_fault(("rule", 0, 0, ("misses",)), "shown", self.two, (((),), ((),)))
        self.assert_fault(("rule", 1, 0, ("entry", 0)), "shown", self.two, ((((0, (0,)),),), (((2, (1,)),),)))

    def test_the_form_of_what_is_shown(self):
        right, wrong = ((0, (0, 0)),), ((0, (0, 1)),)
        self.assert_no_form(
            "shown", self.claim, None, (), [(right, wrong)], ([right, wrong],), ((right, [*wrong]),), ((right,),),
            ((right, wrong, wrong),), ((right, wrong), ()), (right, wrong), ((right, None),),
            ((right, ((1, (0, 0)),)),),
            ((right, ((0, (0,)),)),), ((right, ((0, (0, True)),)),), (((((0, (0, 0)),),), wrong),),
        )
        self.assert_no_form("shown", self.two, ((((0, (0,)),),),), ((), ()), ((((0, (0,)),),), ()), (((), ()), ((),)))

    def test_broken(self):
        claim = ("within", self.claim[1], ((2, 1), (((1, (-1,)), ((0, (-1, -2)),), ((-2, -1),)),)))
        facts = ((0, (0, 0)),)
        self.assert_fault(None, "broken", claim, (0, (0, 0), facts))
        self.assert_fault(None, "broken", claim, (0, (0, 0), facts + ((1, (5,)),)))
        self.assert_fault(("given", facts[0]), "broken", claim, (0, (0, 0), ()))
        self.assert_fault(("open", (1, (3,))), "broken", claim, (0, (0, 0), facts + ((0, (3, 4)), (0, (4, 5)))))
        self.assert_fault(("there",), "broken", claim, (0, (0, 0), facts + ((1, (0,)),)))
        self.assert_fault(("there",), "broken", claim, (0, (0, 1), ((0, (0, 1)), (1, (0,)))))
        for values in ((1, 1), (0, 2), (1, 0), (29, 29)):
            self.assert_fault(("way",), "broken", claim, (0, values, facts))
        self.assert_no_form(
            "broken", claim, None, (), (0, (0, 0)), (0, (0, 0), facts, ()), [0, (0, 0), facts], (1, (0, 0), facts),
            (-1, (0, 0), facts), (False, (0, 0), facts), (0, (0,), facts), (0, (0, 0, 0), facts), (0, (0, 30), facts),
            (0, [0, 0], facts), (0, (False, 0), facts), (0, (0, 0), [*facts]), (0, (0, 0), facts * 2),
            (0, (0, 0), None),
            ((0, 0), facts), (None, (0, 0), facts),
        )

    def test_values_whose_pairs_are_like_are_no_way(self):
        unlike = ((2, 1), (((1, (-1,)), ((0, (-1, -2)),), ((-2, -1),)),))
        claim = ("within", unlike, ((2, 1), ()))
        self.assert_fault(None, "broken", claim, (0, (0, 1), ((0, (0, 1)),)))
        self.assert_fault(("way",), "broken", claim, (0, (0, 0), ((0, (0, 0)),)))

    def test_known_things_count_for_ways(self):
        one = ((1, 1), (((1, (-1,)), ((0, (-1,)),), ()),))
        other = ((1, 1), (((1, (4,)), (), ()),))
        claim = ("within", one, other)
        self.assert_fault(None, "broken", claim, (0, (0,), ((0, (0,)), (1, (4,)))))
        self.assert_fault(("there",), "broken", claim, (0, (4,), ((0, (4,)), (1, (4,)))))
        self.assert_fault(("way",), "broken", claim, (0, (5,), ((0, (5,)), (1, (4,)))))
        self.assert_fault(("open", (1, (4,))), "broken", claim, (0, (0,), ((0, (0,)),)))

    def test_needless_rules(self):
        claim = ("needless", ALL, 1, None)
        self.assertEqual(ALL[1][1], SHORT)
        self.assert_fault(None, "shown", claim, (((0, (0,)), (1, (0,))),))
        self.assert_fault(("rule", 0, ("misses",)), "shown", claim, (((0, (0,)),),))
        self.assert_fault(("rule", 0, ("entry", 0)), "shown", claim, (((1, (0,)),),))
        # The index is one of the program without the rule, which has two.
        self.assert_no_form("shown", claim, (((2, (0,)),),), ((((0, (0,)), (1, (0,))),),), ((), ()), ())
        claim = ("needless", CHAIN, 0, None)
        self.assert_fault(None, "broken", claim, ((0,), ((0, (0,)),)))
        self.assert_fault(("way",), "broken", claim, ((1,), ((0, (1,)),)))
        self.assert_fault(("given", (0, (0,))), "broken", claim, ((0,), ((2, (0,)),)))
        self.assert_fault(("open", (2, (5,))), "broken", claim, ((0,), ((0, (0,)), (1, (5,)))))
        self.assert_fault(("there",), "broken", claim, ((0,), ((0, (0,)), (1, (0,)), (2, (0,)))))
        facts = ((0, (0,)),)
        self.assert_no_form(
            "broken", claim, (0, (0,), facts), ((0,),), ((0,), facts, ()), [(0,), facts], ((0, 0), facts), (0, facts),
            ((0,), [*facts]), ((True,), facts), ((30,), facts), None, facts,
        )

    def test_needless_conditions(self):
        twice = ((2, 1), (((1, (-1,)), ((0, (-1, -2)), (0, (-1, -3))), ()),))
        claim = ("needless", twice, 0, 1)
        # The ways are those of the rule without the condition, the reasons in the whole program.
        paper = (((0, (0, 0, 0)),), ((0, (0, 1, 1)),))
        self.assert_fault(None, "shown", claim, paper)
        self.assert_fault(("rule", 1, ("entry", 0)), "shown", claim, (paper[0], ((0, (0, 1, 0)),)))
        self.assert_no_form("shown", claim, paper[:1], paper + paper[1:], (((0, (0, 0)),), ((0, (0, 1)),)))
        broken = ("needless", ((2, 1), (((1, (-1,)), ((0, (-1, -2)),), ((-2, -1),)),)), 0, 1)
        self.assert_fault(None, "broken", broken, ((0, 0), ((0, (0, 0)),)))
        self.assert_fault(("there",), "broken", broken, ((0, 1), ((0, (0, 1)), (1, (0,)))))
        self.assert_fault(("open", (1, (0,))), "broken", broken, ((0, 1), ((0, (0, 1)),)))
        self.assert_no_form("broken", broken, ((0,), ((0, (0, 0)),)), ((0, 0, 0), ((0, (0, 0)),)))

    def test_at_and_beside_a_thousand_ways(self):
        for program, many in ((WITH_1000_WAYS, 1000), (WITH_1001_WAYS, 1001)):
            counts = [len(list(ways_of(rule, known_things(program)))) for rule in program[1]]
            self.assertEqual(sum(counts), many)
            paper = tuple(((),) * count for count in counts)
            self.assert_fault(None if many == 1000 else ("paper",), "shown", ("within", program, program), paper)

    def test_more_than_a_thousand_ways(self):
        four = ((1, ()), ((0, (-1, -2)), (0, (-3, -4))), ())
        things = [((1, ()), ((0, (2 * at, 2 * at + 1)),), ()) for at in range(4)]
        program = require_program(((2, 0), tuple(sorted([four, *things]))))
        least = [((1, ()), ((0, (0, 1)),), ()), ((1, ()), ((0, (2, 3)),), ())]
        small = require_program(((2, 0), tuple(sorted([four, *least]))))
        for each, fits in ((program, False), (small, True)):
            claim = ("within", each, each)
            try:
                verdict, _, paper = decide(claim, tries=10 ** 6)
            except LimitExceeded:
                self.fail()
            self.assertEqual(verdict, "shown")
            self.assert_fault(None if fits else ("paper",), verdict, claim, paper)
            at = each[1].index(four)
            claim = ("needless", each, at, None)
            verdict, _, paper = decide(claim, tries=10 ** 6)
            self.assertEqual(verdict, "broken")
            self.assert_fault(None, verdict, claim, paper)
            self.assert_fault(("paper",), "shown", claim, ())
            claim = ("within", each, (each[0], each[1][:at] + each[1][at + 1:]))
            verdict, _, paper = decide(claim, tries=10 ** 6)
            self.assert_fault(None, verdict, claim, paper)


class Rounds(Checker):
    first, second = (0, (0,), ((),)), (1, (0,), ((),))
    high = (1, (0,), (first,))
    claim = ("rounds", CHAIN, 2)
    other = ("rounds", ALL, 1)

    def test_shown(self):
        self.assert_fault(None, "shown", self.claim, (self.first, self.second, self.high))
        self.assert_fault(None, "shown", ("rounds", ((1,), ()), 0), ())
        plain = decide(self.other)
        self.assertEqual(plain[0], "shown")
        short = (1, (0,), ((),))
        # The plain trees: ONE, SHORT, TWO and TWO above ONE, for which SHORT stands.
        self.assert_fault(None, "shown", self.other, (self.first, short, (2, (0,), ((),)), short))

    def test_faults_of_trees(self):
        one, short, two = (0, (0,), ((),)), (1, (0,), ((),)), (2, (0,), ((),))
        high = (2, (0,), (one,))
        self.assert_fault(("tree", 3, ("deep",)), "shown", self.other, (one, short, two, high))
        self.assert_fault(("tree", 0, ("deep",)), "shown", self.other, (high, short, two, high))
        self.assert_fault(("tree", 0, ("root",)), "shown", self.other, (short, short, two, short))
        self.assert_fault(("tree", 1, ("root",)), "shown", self.other, (one, (1, (1,), ((),)), two, short))
        self.assert_fault(("tree", 1, ("root",)), "shown", self.other, (one, (), two, short))
        self.assert_fault(("tree", 3, ("leaf", (1, (0,)))), "shown", self.other, (one, short, two, two))
        self.assert_fault(("tree", 2, ("leaf", (0, (0,)))), "shown", self.other, (one, short, short, short))

    def test_parts(self):
        high = (1, (0,), (self.first,))
        for part in ((0, (1,), ((),)), (1, (0,), ((),))):
            wrong = (1, (0,), (part,))
            self.assert_fault(("tree", 2, ("part",)), "shown", self.claim, (self.first, self.second, wrong))
            deep = (1, (0,), (wrong,))
            self.assert_fault(("tree", 2, ("deep",)), "shown", self.claim, (self.first, self.second, deep))
        self.assert_fault(("tree", 1, ("leaf", (0, (0,)))), "shown", self.claim, (self.first, high, high))
        unlike = ((2, 1), (((1, (-1,)), ((0, (-1, -2)),), ((-2, -1),)),))
        claim = ("rounds", unlike, 1)
        self.assert_fault(None, "shown", claim, ((0, (0, 1), ((),)),))
        self.assert_fault(("tree", 0, ("part",)), "shown", claim, ((0, (0, 0), ((),)),))
        self.assert_fault(("tree", 0, ("part",)), "shown", claim, ((0, (1, 1), ((),)),))
        self.assert_fault(("tree", 0, ("root",)), "shown", claim, ((0, (1, 0), ((),)),))
        self.assert_fault(("tree", 0, ("leaf", (0, (0, 2)))), "shown", claim, ((0, (0, 2), ((),)),))

    def test_no_rounds(self):
        own = ("rounds", ((1,), (((0, (-1,)), ((0, (-1,)),), ()),)), 0)
        self.assert_fault(None, "shown", own, ((),))
        self.assert_fault(("tree", 0, ("deep",)), "shown", own, ((0, (0,), ((),)),))
        chain = ("rounds", CHAIN, 0)
        self.assert_fault(("tree", 0, ("root",)), "shown", chain, ((), ()))
        self.assert_fault(None, "broken", chain, (self.first, ()))
        self.assert_fault(None, "broken", chain, ((1, (7,), ((),)), ()))
        self.assert_fault(("deep",), "broken", chain, (self.high, ()))
        self.assert_fault(("there",), "broken", own, ((0, (8,), ((),)), ()))
        self.assert_no_form("broken", chain, ((), ()), (self.first, ((),)), (self.first,), (self.first, None))

    def test_the_first_leaf(self):
        twos = ((1, 0), (((1, ()), ((0, (-1,)), (0, (-2,))), ()),))
        claim = ("rounds", twos, 1)
        # The plain trees have the values (0, 0) and (0, 1).
        right = (0, (0, 0), ((), ()))
        self.assert_fault(None, "shown", claim, (right, right))
        self.assert_fault(None, "shown", claim, (right, (0, (1, 0), ((), ()))))
        self.assert_fault(("tree", 0, ("leaf", (0, (1,)))), "shown", claim, ((0, (2, 1), ((), ())), right))
        self.assert_fault(("tree", 1, ("leaf", (0, (5,)))), "shown", claim, (right, (0, (7, 5), ((), ()))))

    def test_the_form_of_trees(self):
        good = (self.first, self.second, self.high)
        for wrong in STRAYS + (
            (0,), (0, (0,)), (0, (0,), ()), (0, (0,), ((), ())), [*self.first], (2, (0,), ((),)), (-1, (0,), ((),)),
            (0, (), ((),)), (0, (0, 0), ((),)), (0, [0], ((),)), (0, (0,), [()]), (False, (0,), ((),)),
            (0, (False,), ((),)), (0, (30,), ((),)), (0, (0,), (None,)), (0, (0,), ((0,),)), (0, (0,), ([],)),
            (1, (0,), ((0, (0,), ([],)),)), (1, (0,), ((0, (0,), ()),)), (1, (0,), ((5, (0,), ((),)),)),
        ):
            self.assert_no_form("shown", self.claim, (wrong, *good[1:]), (*good[:2], wrong))
            self.assert_no_form("broken", self.claim, (wrong, ((), ())))
        self.assert_no_form("shown", self.claim, None, [*good], good[:2], good + ((),), (), good[0], ((), (), []))

    def test_broken(self):
        claim = ("rounds", CHAIN, 1)
        facts = ((0, (0,)), (1, (0,)))
        self.assert_fault(None, "broken", claim, (self.high, (facts,)))
        self.assert_fault(None, "broken", claim, (self.high, (((0, (0,)), (0, (3,)), (1, (0,)), (2, (8,))),)))
        tree = (1, (6,), ((0, (6,), ((),)),))
        self.assert_fault(None, "broken", claim, (tree, (((0, (6,)), (1, (6,))),)))
        self.assert_fault(("open", 0, (0, (0,))), "broken", claim, (self.high, (((1, (0,)),),)))
        self.assert_fault(("open", 0, (1, (0,))), "broken", claim, (self.high, (facts[:1],)))
        self.assert_fault(("there",), "broken", claim, (self.high, (facts + ((2, (0,)),),)))
        self.assert_fault(("there",), "broken", claim, (self.first, (facts,)))
        self.assert_fault(("part",), "broken", claim, ((1, (0,), ((0, (1,), ((),)),)), (facts,)))
        deep = ("rounds", ((1,), (((0, (-1,)), ((0, (-1,)),), ()),)), 1)
        own = (0, (0,), ((),))
        self.assert_fault(("there",), "broken", deep, ((0, (0,), (own,)), (((0, (0,)),),)))
        self.assert_fault(("deep",), "broken", deep, ((0, (0,), ((0, (0,), (own,)),)), (((0, (0,)),),)))
        self.assert_no_form(
            "broken", claim, None, (), (self.high,), [self.high, (facts,)], (self.high, [facts]), (self.high, ()),
            (self.high, (facts, facts)), (self.high, (facts[::-1],)), (self.high, ([*facts],)), (self.high, facts),
            ((), (facts,)), (self.high, (facts,), ()), (self.high, (None,)), (self.high, (((0, (True,)),),)),
        )

    def test_the_second_set(self):
        # The kind 3 comes of 2: two rounds are not enough.
        three = ((3, (-1,)), ((2, (-1,)),), ())
        program = ((1, 1, 1, 1), (ONE, TWO, three))
        claim = ("rounds", program, 2)
        tree = (2, (0,), (self.high,))
        first, second = ((0, (0,)), (1, (0,))), ((0, (0,)), (1, (0,)), (2, (0,)))
        self.assertEqual(decide(claim)[2], (tree, (first, second)))
        self.assert_fault(None, "broken", claim, (tree, (first, second)))
        self.assert_fault(("open", 1, (2, (0,))), "broken", claim, (tree, (first, first)))
        self.assert_fault(("open", 0, (1, (0,))), "broken", claim, (tree, (first[:1], first)))
        # The second set has to have all that the first one has and leads to.
        more = first + ((2, (5,)),)
        self.assert_fault(("open", 1, (2, (5,))), "broken", claim, (tree, (more, second)))
        self.assert_fault(("open", 1, (3, (5,))), "broken", claim, (tree, (more, second + ((2, (5,)),))))
        self.assert_fault(None, "broken", claim, (tree, (more, second + ((2, (5,)), (3, (5,))))))
        self.assert_fault(("there",), "broken", claim, (tree, (second, second + ((3, (0,)),))))

    def test_at_and_beside_a_thousand_plain_trees(self):
        # The trees of the depth 1 are the ways of the rules; each root is a leaf.
        for program, fits in ((WITH_1000_WAYS, True), (WITH_1001_WAYS, False)):
            claim = ("rounds", program, 0)
            self.assert_fault(None if fits else ("paper",), "shown", claim, ((),) * (1000 if fits else 1001))
            if not fits:
                self.assert_fault(("paper",), "shown", claim, ((),) * 1000)

    def test_more_than_a_thousand_plain_trees(self):
        wide = require_program(((0,), (((0, ()), (), ()), ((0, ()), ((0, ()), (0, ()), (0, ())), ()))))
        claim = ("rounds", wide, 2)
        self.assertRaises(LimitExceeded, decide, claim, tries=1000)
        for paper in ((), ((),) * 1000, ((),) * 10 ** 4):
            self.assert_fault(("paper",), "shown", claim, paper)
        # What is broken is looked at all the same.
        self.assert_fault(("there",), "broken", claim, ((0, (), ()), (((0, ()),), ((0, ()),))))
        claim = ("rounds", wide, 1)
        verdict, _, paper = decide(claim, tries=1000)
        self.assert_fault(None, verdict, claim, paper)


class Mend(Checker):
    # The wishes are kept if FLAG is put; it costs 3, or 5 as another option.
    program = ((1, 1, 1), (ONE,))
    wishes = (("leads", (), (2, (3,))), ("spares", ((0, (1,)),), (2, (1,))), ("over", ((1, 1, 1), (ONE,))))
    options = (("put", FLAG, 3), ("put", TWO, 1), ("put", FLAG, 5))
    kept = (((1, ()),), ((0, (1,)), (1, (1,)), (2, (3,))), ((((0, (0,)),), ((0, (3,)),)),))

    def claim(self, n):
        return ("mend", self.program, self.wishes, self.options, n)

    def right(self, n):
        verdict, _, paper = decide(self.claim(n))
        return verdict, paper

    def test_right_ones(self):
        choice, shown, breaks = self.right(3)[1]
        self.assertEqual((choice, shown, len(breaks)), ((0,), self.kept, 2))
        self.assert_fault(None, "shown", self.claim(3), (choice, shown, breaks))
        # The wish that the choice (1,) does not keep may be the second one.
        other = (1, ((0, (1,)), (1, (1,))))
        self.assert_fault(None, "shown", self.claim(3), (choice, shown, (breaks[0], other)))
        for n in (None, 4, 5, 300):
            self.assert_fault(None, "broken", self.claim(n), ("less", choice, shown))
        for n in (None, 6, 300):
            self.assert_fault(None, "broken", self.claim(n), ("less", (2,), shown))
        self.assert_fault(None, "broken", self.claim(2), ("more", breaks))
        self.assert_fault(None, "broken", self.claim(1), ("more", breaks))
        self.assert_fault(None, "broken", self.claim(0), ("more", breaks[:1]))

    def test_costs(self):
        choice, shown, breaks = self.right(3)[1]
        for n in (None, 6, 5, 4):
            self.assert_fault(None, "broken", self.claim(n), ("less", choice, shown))
        for n in (3, 2, 0):
            self.assert_fault(("cost",), "broken", self.claim(n), ("less", choice, shown))
        self.assert_fault(("cost",), "broken", self.claim(5), ("less", (2,), shown))
        self.assert_fault(("cost",), "shown", self.claim(3), ((2,), shown, breaks))
        self.assert_fault(("cost",), "shown", self.claim(2), (choice, shown, breaks))
        # The cost comes before the grounds, the grounds come before the breaks.
        wrong = ((), *shown[1:])
        self.assert_fault(("cost",), "shown", self.claim(2), (choice, wrong, breaks))
        self.assert_fault(("ground", 0, ("misses",)), "shown", self.claim(3), (choice, wrong, breaks[:1] + ((1, ()),)))

    def test_as_many_breaks_as_choices_that_cost_less_than_what_is_claimed(self):
        choice, shown, breaks = self.right(3)[1]
        self.assert_no_form("shown", self.claim(3), (choice, shown, breaks[:1]), (choice, shown, breaks + breaks[1:]))
        self.assert_no_form("shown", self.claim(1), (choice, shown, breaks), (choice, shown, ()))
        self.assert_fault(("cost",), "shown", self.claim(1), (choice, shown, breaks[:1]))
        self.assert_no_form("broken", self.claim(1), ("more", breaks[:1]), ("more", breaks + breaks[:1]), ("more", ()))
        self.assert_no_form("broken", self.claim(0), ("more", breaks))
        self.assert_no_form("shown", self.claim(None), breaks, ())

    def test_grounds(self):
        choice, shown, breaks = self.right(3)[1]
        for at, wrong, fault in (
            (0, (), ("misses",)), (0, ((0, (1,)),), ("entry", 0)), (0, ((1, ()), (0, (3,))), ("entry", 1)),
            (1, (), ("given", (0, (1,)))), (1, ((0, (1,)),), ("open", (1, (1,)))),
            (1, ((0, (1,)), (1, (1,)), (2, (1,)), (2, (3,))), ("there",)),
            (1, ((0, (1,)), (1, (1,))), ("open", (2, (3,)))),
            (2, ((((0, (3,)),), ((0, (3,)),)),), ("rule", 0, 0, ("entry", 0))),
            (2, ((((0, (0,)),), ()),), ("rule", 0, 1, ("misses",))),
        ):
            grounds = shown[:at] + (wrong,) + shown[at + 1:]
            self.assert_fault(("ground", at, fault), "shown", self.claim(3), (choice, grounds, breaks))
            self.assert_fault(("ground", at, fault), "broken", self.claim(4), ("less", choice, grounds))

    def test_the_form_of_grounds(self):
        choice, shown, breaks = self.right(3)[1]
        for wrong in (
            shown[:2], shown + shown[:1], [*shown], (), None, (shown[1], shown[0], shown[2]), (*shown[:2], ()),
            (*shown[:2], None), (*shown[:2], (((), (), ()),)), (((2, ()),), *shown[1:]), ([], *shown[1:]),
            (shown[0], shown[1][::-1], shown[2]), (shown[0], [], shown[2]), (shown[0], shown[1], (0, (0,), ())),
        ):
            self.assert_no_form("shown", self.claim(3), (choice, wrong, breaks))
            self.assert_no_form("broken", self.claim(4), ("less", choice, wrong))

    def test_the_form_of_the_choice(self):
        choice, shown, breaks = self.right(3)[1]
        for wrong in (
            None, 0, [0], [], (3,), (-1,), (0, 0), (0, 2), (1, 0), (False,), (True,), (0, True), (0, 1, 2), ("0",),
            ((0,),), {0: 0}, (None,), (10 ** 50,), "0", (0, 1, 2, 3),
        ):
            self.assert_no_form("shown", self.claim(3), (wrong, shown, breaks))
            self.assert_no_form("broken", self.claim(4), ("less", wrong, shown))
            self.assert_no_form("broken", self.claim(None), ("less", wrong, shown))

    def test_a_choice_without_room_is_none(self):
        rules = tuple(((1, (thing,)), (), ()) for thing in range(6))
        program = ((1, 1, 1), rules)
        options = (("put", FLAG, 0), ("drop", rules[0], 0))
        wish = ("leads", (), (1, (5,)))
        claim = ("mend", program, (wish,), options, None)
        for choice in ((), (0, 1), (1,)):
            ground = ((4, ()),) if choice else ((5, ()),)
            self.assert_fault(None, "broken", claim, ("less", choice, (ground,)))
        self.assert_no_form("broken", claim, ("less", (0,), (((5, ()),),)))

    def test_breaks(self):
        choice, shown, breaks = self.right(3)[1]
        self.assertEqual(breaks, ((0, ()), (0, ())))
        for wrong, fault in (
            ((0, ((0, (4,)),)), ("open", (1, (4,)))), ((0, ((2, (3,)),)), ("there",)),
            ((1, ()), ("misses",)), ((1, ((0, (2,)),)), ("entry", 0)), ((1, ((0, (1,)),)), ("misses",)),
            ((2, (0, (0,), ())), ("given", (0, (0,)))), ((2, (0, (1,), ())), ("way",)),
            ((2, (0, (0,), ((0, (0,)), (1, (0,))))), ("there",)), ((2, (0, (0,), ((0, (0,)),))), ("open", (1, (0,)))),
        ):
            self.assert_fault(("break", 0, fault), "shown", self.claim(3), (choice, shown, (wrong, breaks[1])))
            self.assert_fault(("break", 0, fault), "broken", self.claim(0), ("more", (wrong,)))
        self.assert_fault(
            ("break", 1, ("open", (2, (4,)))), "broken", self.claim(2), ("more", (breaks[0], (0, ((1, (4,)),)))),
        )
        # With the choice (1,) the second wish is not kept: the reason shows it.
        reason = ((0, (1,)), (1, (1,)))
        self.assert_fault(None, "broken", self.claim(2), ("more", (breaks[0], (1, reason))))
        self.assert_fault(("break", 1, ("entry", 0)), "broken", self.claim(2), ("more", (breaks[0], (1, reason[1:]))))

    def test_the_form_of_breaks(self):
        choice, shown, breaks = self.right(3)[1]
        for wrong in (
            None, (), (0,), (0, (), ()), [0, ()], (3, ()), (-1, ()), (False, ()), (None, ()), (0, []), (0, None),
            (0, ((0, (True,)),)), (1, ((2, (1,)),)), (1, ((0, (1,), ()),)), (2, ((0,), ())), (2, ()),
            (0, (0, (0,), ())),
        ):
            for each in ((wrong, breaks[1]), (breaks[0], wrong)):
                self.assert_no_form("shown", self.claim(3), (choice, shown, each))
                self.assert_no_form("broken", self.claim(2), ("more", each))
        self.assert_no_form("shown", self.claim(3), (choice, shown, [*breaks]), (choice, shown, None))
        self.assert_no_form("broken", self.claim(2), ("more", [*breaks]), ("more", None))

    def test_the_form_of_the_whole(self):
        choice, shown, breaks = self.right(3)[1]
        self.assert_no_form(
            "shown", self.claim(3), None, (), (choice, shown), (choice, shown, breaks, ()), [choice, shown, breaks],
            breaks, ("less", choice, shown), ("more", breaks), (None, shown, breaks), ((), shown, breaks)[:2],
        )
        self.assert_no_form(
            "broken", self.claim(3), None, (), ("more",), ("more", breaks, ()), ["more", breaks], ("More", breaks),
            ("less", breaks), ("more", choice, shown), ("less", choice), ("less", choice, shown, ()), (choice, shown),
            (choice, shown, breaks), ["less", choice, shown], (None, choice, shown), (["less"], choice, shown),
            breaks, (b"more", breaks), (True, breaks), ("", breaks),
        )
        self.assert_no_form("broken", self.claim(None), ("more", breaks), ("more", breaks * 3), ("more", ()))
        self.assert_no_form("shown", self.claim(None), (choice, shown, breaks), ("more", breaks))

    def test_no_choice_mends(self):
        wishes = (("leads", (), (0, (1,))),)
        options = (("put", TWO, 1), ("drop", ONE, 0))
        claim = ("mend", self.program, wishes, options)
        breaks = ((0, ()),) * 4
        self.assert_fault(None, "shown", (*claim, None), breaks)
        self.assert_fault(None, "broken", (*claim, 300), ("more", breaks))
        self.assert_fault(None, "broken", (*claim, 1), ("more", breaks))
        self.assert_fault(None, "broken", (*claim, 0), ("more", breaks[:2]))
        self.assert_no_form("shown", (*claim, None), breaks[:3], breaks + breaks[:1], ((), (), breaks))
        self.assert_no_form("broken", (*claim, None), ("more", breaks), ("more", ()))
        wrong = breaks[:2] + ((0, ((0, (1,)),)),) + breaks[3:]
        # The third choice is that of putting TWO.
        self.assert_fault(("break", 2, ("open", (1, (1,)))), "shown", (*claim, None), wrong)

    def test_more_than_a_thousand_ways(self):
        four = ((1, ()), ((0, (-1, -2)), (0, (-3, -4))), ())
        things = [((1, ()), ((0, (2 * at, 2 * at + 1)),), ()) for at in range(4)]
        program = require_program(((2, 0), tuple(sorted([four, *things]))))
        options = (("drop", four, 0),)
        claim = ("mend", program, (("within", program),), options, 0)
        verdict, _, paper = decide(claim, tries=10 ** 6)
        self.assertEqual(verdict, "shown")
        self.assert_fault(("paper",), verdict, claim, paper)
        broken = ("mend", program, (("within", (program[0], ())),), options, None)
        verdict, _, paper = decide(broken, tries=10 ** 6)
        self.assert_fault(None, verdict, broken, paper)


def draw_small_claim(source):
    """A claim that is decided within 1,000 tries."""
    while True:
        claim = draw_claim(source)
        try:
            decide(claim, tries=150)
        except LimitExceeded:
            continue
        return claim


class AtRandom(Checker):
    def test_right_certificates(self):
        source = random.Random(61)
        for _ in range(250):
            certificate = decide(draw_small_claim(source), tries=1000)
            self.assert_first(None, certificate)
            self.assertEqual(certificate[0] == "shown", plain_is_so(certificate[1]))

    def test_papers_that_were_altered(self):
        source = random.Random(62)
        faults = {}
        for _ in range(900):
            verdict, claim, paper = decide(draw_small_claim(source), tries=1000)
            for _ in range(4):
                other = paper
                for _ in range(source.choice((1, 1, 2, 3))):
                    other = nudged(source, other) if source.random() < 0.8 else altered(source, other)
                fault = plain_first_fault((verdict, claim, other), is_claim)
                self.assert_fault(fault, verdict, claim, other)
                for word in self.words_of(fault):
                    faults[word] = faults.get(word, 0) + 1
                if fault is None:
                    self.assertEqual(plain_is_so(claim), verdict == "shown")
        told = {
            None, "paper", "entry", "misses", "given", "open", "there", "rule", "way", "tree", "part", "root", "leaf",
            "ground", "break",
        }
        self.assertLessEqual(told, set(faults))

    def words_of(self, fault):
        """The words of a fault and of those within it."""
        if fault is None:
            return [None]
        return [fault[0]] + [word for part in fault[1:] if isinstance(part, tuple) and part and isinstance(part[0], str)
                             for word in self.words_of(part)]

    def test_papers_for_other_claims(self):
        source = random.Random(63)
        for _ in range(150):
            one = decide(draw_small_claim(source), tries=1000)
            other = decide(draw_small_claim(source), tries=1000)
            for certificate in (
                (one[0], other[1], one[2]), (other[0], other[1], one[2]), (one[0], one[1], other[2]),
                ("shown" if one[0] == "broken" else "broken", one[1], one[2]),
            ):
                self.assert_first(plain_first_fault(certificate, is_claim), certificate)
                if first_fault(certificate) is None:
                    self.assertEqual(plain_is_so(certificate[1]), certificate[0] == "shown")

    def test_wrong_integers_anywhere(self):
        source = random.Random(64)
        for _ in range(60):
            verdict, claim, paper = decide(draw_small_claim(source), tries=1000)
            for wrong in WRONG_INTEGERS:
                other = self.with_integer(source, paper, wrong)
                self.assert_fault(plain_first_fault((verdict, claim, other), is_claim), verdict, claim, other)

    def with_integer(self, source, value, wrong):
        """The value with some integer in it exchanged."""
        if not isinstance(value, tuple) or not value:
            return wrong if isinstance(value, int) else value
        index = source.randrange(len(value))
        return value[:index] + (self.with_integer(source, value[index], wrong),) + value[index + 1:]


if __name__ == "__main__":
    unittest.main()
