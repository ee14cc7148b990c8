"""Values that are of no use anywhere, and a check that a call leaves its arguments alone."""

import copy


def nested_in_tuples(depth):
    value = ()
    for _ in range(depth):
        value = (value,)
    return value


def nested_in_lists(depth):
    value = []
    for _ in range(depth):
        value = [value]
    return value


# No one of these is a pair, a triple or a tuple of pairs.
STRAYS = (
    None, True, False, 0, 1, -1, 30, 10 ** 50, "", "ab", "abc", [], [0, (1, 2)], {}, {0: (1, 2), 1: (1, 2)},
    nested_in_tuples(40), nested_in_lists(40), (nested_in_tuples(39),) * 2, [[(0, (1, 2))]], (None, None),
    ((), ()), ("ab", "ab"), ({}, []),
)


def answer_leaving_arguments(test, call, *arguments, **named):
    """Call, check that the arguments are as before, and return the answer or the error."""
    # repr tells True from 1 and a list from a tuple, where == may not.
    before = repr(arguments)
    passed = copy.deepcopy(arguments)
    try:
        answer = call(*passed, **named)
    except (ValueError, LookupError, RuntimeError, OverflowError) as error:
        answer = error
    test.assertEqual(repr(passed), before)
    return answer
