import random
import re
import unittest

from leadalike.errors import InvalidProgram, ParseError
from leadalike.programs import require_program
from leadalike.texts import format_program, parse_program
from tests.plainly import plain_variables
from tests.randomly import draw_kinds, draw_program
from tests.samples import answer_leaving_arguments

RULE = "k1(x1,x3) if k1(x1,x2) and k0(x2,x3) unless x2 is x1"
LINES = (
    "kinds 2 1 0", "k0(x1,7) if k0(x1,x2) and k1(x2) and k2() unless x2 is x1 unless x1 is 3", "k1(4)",
    "k1(x1) if k0(x1,x1)", "k2() unless 1 is 2", "k2() if k0(x4,x3) and k0(x2,x1)", "k2() if k2()",
)
PROGRAM = ((2, 1, 0), (
    ((0, (-1, 7)), ((0, (-1, -2)), (1, (-2,)), (2, ())), ((-2, -1), (-1, 3))), ((1, (-1,)), ((0, (-1, -1)),), ()),
    ((1, (4,)), (), ()), ((2, ()), (), ((1, 2),)), ((2, ()), ((0, (-4, -3)), (0, (-2, -1))), ()),
    ((2, ()), ((2, ()),), ()),
))
ATOM = r"k([0-5])\(((?:x[1-4]|[0-9])(?:,(?:x[1-4]|[0-9]))*)?\)"
TERM = "(?:x[1-4]|[0-9])"


def text_of(*lines):
    return "".join(line + "\n" for line in lines)


def plain_term(text):
    return -int(text[1:]) if text.startswith("x") else int(text)


def plain_atom(text):
    kind, terms = re.fullmatch(ATOM, text).groups()
    return (int(kind), tuple(plain_term(term) for term in terms.split(",")) if terms else ())


def plain_rule(line):
    """The rule that is written in the line, be it one or not; None if the line is not written as one."""
    found = re.fullmatch(f"({ATOM})( if {ATOM}(?: and {ATOM})*)?((?: unless {TERM} is {TERM})*)", line)
    if found is None:
        return None
    head, *atoms = [plain_atom(each.group()) for each in re.finditer(ATOM, line)]
    pairs = re.findall(f" unless ({TERM}) is ({TERM})", line)
    return (head, tuple(atoms), tuple((plain_term(one), plain_term(other)) for one, other in pairs))


def plain_parse(text):
    """The program, or the line of the error, as the document tells it."""
    lines = text.split("\n")
    rest = lines.pop()
    rules = []
    for at, line in enumerate(lines):
        if at == 0:
            if re.fullmatch("kinds( [012]){1,6}", line) is None:
                return 0
            kinds = tuple(int(word) for word in line.split(" ")[1:])
            continue
        rule = plain_rule(line)
        if at >= 7 or rule is None:
            return at
        try:
            require_program((kinds, (*rules, rule)))
        except InvalidProgram:
            return at
        rules.append(rule)
    return (kinds, tuple(rules)) if lines and not rest else len(lines)


class Texts(unittest.TestCase):
    def assert_text(self, text, program):
        require_program(program)
        with self.subTest(program=program):
            self.assertEqual(repr(answer_leaving_arguments(self, format_program, program)), repr(text))
            self.assertEqual(repr(parse_program(text)), repr(program))
            self.assertEqual(repr(plain_parse(text)), repr(program))

    def assert_wrong(self, line, text):
        with self.subTest(text=text[:300]):
            self.assertEqual(plain_parse(text), line)
            with self.assertRaises(ParseError) as caught:
                parse_program(text)
            self.assertEqual(repr(caught.exception.line), repr(line))


class Example(Texts):
    def test_the_answers_of_the_document(self):
        text = format_program(((2, 0), (((1, ()), ((0, (-1, -2)),), ((-2, -1),)),)))
        self.assertEqual((text, parse_program(text)[0]), ("kinds 2 0\nk1() if k0(x1,x2) unless x2 is x1\n", (2, 0)))
        self.assert_text(text_of("kinds 2 2 1"), ((2, 2, 1), ()))
        rule = ((1, (-1, -3)), ((1, (-1, -2)), (0, (-2, -3))), ((-2, -1),))
        self.assert_text(text_of("kinds 2 2", RULE), ((2, 2), (rule,)))
        self.assert_text(text_of("kinds 2 2 0", "k2() if k0(x1,7)"), ((2, 2, 0), (((2, ()), ((0, (-1, 7)),), ()),)))

    def test_each_function_is_defined_in_its_file(self):
        for call in (format_program, parse_program):
            self.assertEqual(call.__module__, "leadalike.texts")

    def test_arguments_by_name(self):
        self.assertEqual(parse_program(text=format_program(program=PROGRAM)), PROGRAM)


class Programs(Texts):
    def test_all_there_is(self):
        lines = [LINES[0], LINES[1], LINES[3], LINES[2], *LINES[4:]]
        self.assert_text(text_of(*lines), PROGRAM)

    def test_kinds(self):
        for kinds in ((0,), (1,), (2,), (2, 1, 0), (0,) * 6, (2, 2, 2, 1, 1, 0)):
            self.assert_text("kinds " + " ".join(map(str, kinds)) + "\n", (kinds, ()))

    def test_each_term(self):
        for term in range(10):
            self.assert_text(f"kinds 1\nk0({term})\n", ((1,), (((0, (term,)), (), ()),)))
        for name in range(1, 5):
            self.assert_text(f"kinds 1\nk0(x{name}) if k0(x{name})\n", ((1,), (((0, (-name,)), ((0, (-name,)),), ()),)))

    def test_each_kind(self):
        for kind in range(6):
            self.assert_text(f"kinds 0 0 0 0 0 0\nk{kind}()\n", ((0,) * 6, (((kind, ()), (), ()),)))

    def test_at_random(self):
        source = random.Random(90)
        for _ in range(400):
            program = draw_program(source, draw_kinds(source), (0, 3, 9), source.randint(0, 4))
            text = format_program(program)
            self.assert_text(text, program)
            self.assertLess(max(len(plain_variables(rule)) for rule in (*program[1], ((0, ()), (), ()))), 5)


class WrongTexts(Texts):
    def test_no_line_of_kinds(self):
        for line in (
            "", " ", "kinds", "kinds ", "kinds 3", "kinds -1", "kinds 2 ", " kinds 2", "kinds  2", "kinds 2  1",
            "kinds 2,1",
            "kind 2", "Kinds 2", "kinds 02", "kinds 2.", "kinds x1", "kinds 2 x", "kinds 10", "kinds 0 0 0 0 0 0 0",
            "kinds\t2", "kinds 2\t", "k0()", "2 1", "kinds2", "kinds +1", "kinds 1_0", "kinds k",
        ):
            self.assert_wrong(0, line + "\n")
            self.assert_wrong(0, text_of(line, "k0()", "nonsense"))

    def test_no_line_end(self):
        for text in ("", "kinds 2", "k", " ", "\t", "kinds 2 1 0"):
            self.assert_wrong(0, text)
        for many in range(1, 4):
            text = text_of("kinds 1 1", *[f"k0({at})" for at in range(many - 1)])
            for rest in ("k1(2)", " ", "x", "nonsense", "kinds 1", "\t"):
                self.assert_wrong(many, text + rest)

    def test_wrong_lines(self):
        for line in (
            "", " ", "nonsense", "k0", "k0(", "k0)", "k0()", "k0(1)", "k0(1,2,3)", "k0(1,2) ", " k0(1,2)", "k0 (1,2)",
            "k0(1, 2)", "k0( 1,2)", "k0(1,2,)", "k0(,1,2)", "k0(1,,2)", "K0(1,2)", "k0(1,2).", "k0[1,2]", "k(1,2)",
            "0(1,2)",
            "k00(1,2)", "k3()", "k6()", "k9(1)", "k-1()", "kx1()", "k1(10)", "k1(01)", "k1(-1)", "k1(x0)", "k1(x5)",
            "k1(X1)",
            "k1(x)", "k1(x1)", "k1(x11)", "k1(1)(2)", "k2(())", "k2() if", "k2() if ", "k2()if k2()", "k2() if  k2()",
            "k2()  if k2()", "k2() if k2() and", "k2() if k2() and ", "k2() and k2()", "k2() if k2() if k2()",
            "k2() if k2(),k2()", "k2() if k2() k2()", "k2() if k2() and and k2()", "k2() if k2() & k2()",
            "k2() if k2() and k2() and k2() and k2()", "k2() IF k2()", "k2() unless", "k2() unless ", "k2() unless 1",
            "k2() unless 1 is", "k2() unless 1 is ", "k2() unless is 2", "k2() unless 2 is 1", "k2() unless 1 is 1",
            "k2() unless 1 is 2 is 3", "k2() unless 1  is 2", "k2() unless 1 is 2 and 2 is 3", "k2() unless 1 = 2",
            "k2() unless 1 is 2 unless", "k2() unless 1 is 2 unless 1 is 2", "k2() unless 2 is 3 unless 1 is 2",
            "k2() unless 1 is 2 unless 1 is 3 unless 1 is 4 unless 1 is 5", "k2() unless 1 is 10",
            "k2() unless k2() is 3",
            "k2() unless 1 is 2 if k2()", "k2() if k1(x1) unless x1 is x2", "k2() if k0(x1,x2) unless x1 is x2",
            "k1(x2) if k1(x1)", "k2() if k1(x1) unless 3 is x1", "k2() unless x2 is x1", "k2() if k1(x1,x2)",
            "k2() if unless",
            "k2() if 1 is 2", "k2()\t", "k2()\tif k2()", "if k2()", "unless 1 is 2", "k2() if k2() unless 1 is 2 ",
            "kinds 2 1 0",
            "k2() :- k2()", "k1(1 )", "k1(x 1)", "k1(1,)", "k1()", "()", "k2()k2()",
        ):
            self.assert_wrong(1, text_of("kinds 2 1 0", line))
            self.assert_wrong(1, text_of("kinds 2 1 0", line, "k2()", "nonsense"))
            self.assert_wrong(1, text_of("kinds 2 1 0", line) + "rest")
            self.assert_wrong(2, text_of("kinds 2 1 0", "k0(0,0)", line) if line else "kinds 2 1 0\nk0(0,0)\n\n")

    def test_rules_that_are_not_greater_than_the_one_before(self):
        self.assert_wrong(2, text_of("kinds 1", "k0(1)", "k0(1)"))
        self.assert_wrong(2, text_of("kinds 1", "k0(2)", "k0(1)"))
        self.assert_wrong(3, text_of("kinds 1", "k0(1)", "k0(2)", "k0(2)", "k0(1)"))
        # Variables are less than things, and a body is greater than none.
        self.assert_wrong(2, text_of("kinds 1", "k0(1) if k0(1)", "k0(1)"))
        self.assert_wrong(2, text_of("kinds 1", "k0(x1) if k0(x1)", "k0(x2) if k0(x2)"))
        self.assert_text(
            text_of("kinds 1", "k0(x2) if k0(x2)", "k0(x1) if k0(x1)"),
            ((1,), (((0, (-2,)), ((0, (-2,)),), ()), ((0, (-1,)), ((0, (-1,)),), ()))),
        )

    def test_too_many_lines(self):
        lines = ["kinds 1"] + [f"k0({at})" for at in range(7)]
        self.assertEqual(len(parse_program(text_of(*lines[:7]))[1]), 6)
        self.assert_wrong(7, text_of(*lines))
        self.assert_wrong(7, text_of(*lines[:7], ""))
        self.assert_wrong(7, text_of(*lines[:7], "nonsense", "more"))
        self.assert_wrong(7, text_of(*lines[:7]) + "k0(6)")
        self.assert_wrong(6, text_of(*lines[:6], "k0(0)", "k0(7)"))
        self.assert_wrong(2, text_of("kinds 1", "k0(0)", "k0(0)", *lines[1:]))

    def test_line_ends_of_other_kinds_are_none(self):
        self.assert_wrong(1, "kinds 1\nk0(1)\t\n")
        self.assert_wrong(1, "kinds 1\n\n")
        self.assert_wrong(0, "\nkinds 1\n")
        self.assert_wrong(0, "\n")
        self.assert_wrong(0, "\n" * 20000)

    def test_large_texts(self):
        for text in ("k" * 20000, "kinds" + " 1" * 9990 + "\n", "(" * 20000, " unless " * 2400 + "\n"):
            self.assert_wrong(0, text)
        for line in ("k0(" + "1," * 9000 + "1)", "k0(1)" + " if k0(1)" * 2000, "k0(1) if k0(1)" + " and k0(1)" * 1900,
                     "k0(1)" + " unless 1 is 2" * 1300, "k" * 19000, "k0(1) if " + "(" * 19000):
            self.assert_wrong(1, text_of("kinds 1", line))
        self.assert_wrong(1, "kinds 1\n" + "\n" * 19000)

    def test_texts_that_were_altered(self):
        source = random.Random(91)
        answers = {"program": 0, "error": 0}
        signs = "k x0123459(), ifandunlesskinds\n\t~"
        for _ in range(4000):
            text = format_program(draw_program(source, draw_kinds(source), (0, 3, 9), source.randint(0, 4)))
            for _ in range(source.randint(1, 2)):
                at = source.randrange(len(text) + 1)
                change = source.randrange(4)
                if change == 0:
                    text = text[:at] + source.choice(signs) + text[at:]
                elif change == 1:
                    text = text[:at] + source.choice(signs) + text[at + 1:]
                elif change == 2:
                    text = text[:at] + text[at + 1:]
                else:
                    lines = text.split("\n")
                    source.shuffle(lines)
                    text = "\n".join(lines)
            expected = plain_parse(text)
            if isinstance(expected, int):
                answers["error"] += 1
                self.assert_wrong(expected, text)
            else:
                answers["program"] += 1
                self.assertEqual(repr(parse_program(text)), repr(expected))
                self.assertEqual(format_program(expected), text)
        self.assertGreater(min(answers.values()), 100)


if __name__ == "__main__":
    unittest.main()
