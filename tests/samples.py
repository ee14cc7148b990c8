"""Values that are of no use anywhere, and a check that a call leaves its arguments alone."""

import copy
import unittest

from leadalike.errors import LimitExceeded


def nested_in_tuples(depth):
    value = ()
    for _ in range(depth):
        value = (value,)
    return value


def nested_in_lists(depth):
    value = []
    for _ in range(depth):
        value = [value]
    return value


# No one of these is a pair, a triple or a tuple of pairs.
STRAYS = (
    None, True, False, 0, 1, -1, 30, 10 ** 50, "", "ab", "abc", [], [0, (1, 2)], {}, {0: (1, 2), 1: (1, 2)},
    nested_in_tuples(40), nested_in_lists(40), (nested_in_tuples(39),) * 2, [[(0, (1, 2))]], (None, None),
    ((), ()), ("ab", "ab"), ({}, []),
)

# No one of these is an index, a thing, a cost or a number of anything.
WRONG_INTEGERS = (
    -1, -2, -30, 10 ** 50, -10 ** 50, True, False, None, "", "1", (), (1,), [], [1], {}, {1: 1},
    nested_in_tuples(30), nested_in_lists(30),
)

_BODY = ((0, (-1, -2)), (1, (-3,)))
_RULES = (*(((0, head), _BODY, ()) for head in ((-1, -2), (-1, -3), (-2, -3), (-3, -3))),
          ((2, ()), ((0, (-1, -2)), (0, (-3, -4))), ()))
# Programs whose rules have 300 and 301 ways together, and so many plain trees of the depth 1.
WITH_300_WAYS = ((2, 1, 0), tuple(sorted([*_RULES, ((0, (3, 8)), (), ())])))
WITH_301_WAYS = ((2, 1, 0), tuple(sorted([*_RULES, ((0, (3, 8)), ((1, (-1,)),), ((-1, 3),))])))


def answer_leaving_arguments(test, call, *arguments, **named):
    """Call, check that the arguments are as before, and return the answer or the error."""
    # repr tells True from 1 and a list from a tuple, where == may not.
    before = repr(arguments)
    passed = copy.deepcopy(arguments)
    try:
        answer = call(*passed, **named)
    except (ValueError, LookupError, RuntimeError, OverflowError) as error:
        answer = error
    test.assertEqual(repr(passed), before)
    return answer


class Answers(unittest.TestCase):
    """Checks of what a call returns, to which it is no matter what the call is."""

    def assert_answer(self, expected, call, *arguments, **named):
        with self.subTest(call=call.__name__, arguments=repr(arguments)[:300], **named):
            answer = answer_leaving_arguments(self, call, *arguments, **named)
            self.assertEqual(repr(answer), repr(expected))

    def assert_exceeded(self, call, *arguments, **named):
        with self.subTest(call=call.__name__, arguments=repr(arguments)[:300], **named):
            error = answer_leaving_arguments(self, call, *arguments, **named)
            self.assertIs(error.__class__, LimitExceeded)
            self.assertEqual(error.limit, named.get("tries", 300))
