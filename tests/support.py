"""What several tests use: wrong arguments of every kind, and checks of the errors that they raise."""

import copy
import itertools

from timekernel import errors
from timekernel.kernel import Kernel

INTERFACE_OBJECTS = [errors.KernelError, errors.KernelError("x"), errors.NoRow("x", 3), Kernel, Kernel(8, (3, 1))]

# Nothing here is an integer, a list or a tuple.
OTHER_OBJECTS = INTERFACE_OBJECTS + [
    None, True, False, 1.0, 0.0, float("nan"), float("inf"), 1j, "", "1", "12", b"", b"1", bytearray(b"1"),
    memoryview(b"1"), {}, {0: 1}, {1: 2, 2: 3}, set(), {1, 2}, frozenset(), frozenset([1]), range(0), range(3),
    slice(1), object(), object, int, list, Ellipsis, NotImplemented, len, [].append, lambda: 1, iter([1]),
    iter([]), zip([1], [2]), enumerate([1]), map(int, ["1"]), (k for k in [1]), ValueError("x"), itertools,
]
NOT_INTEGERS = OTHER_OBJECTS + [[], [1], [[]], (), (1,), (1, 2), ([], {})]
NOT_LISTS = OTHER_OBJECTS + [1, 0, 2, -1, (), (1,), (1, 2), (3, 18, 60), ((0, 0), (4, 6))]
NOT_TUPLES = OTHER_OBJECTS + [1, 0, 2, -1, [], [1], [1, 2], [3, 1]]


def is_raised(case, error, function, arguments):
    """The call raises this very error, not one that derives from it."""
    with case.assertRaises(errors.KernelError, msg=repr(arguments)[:300]) as caught:
        function(*arguments)
    case.assertIs(type(caught.exception), error, repr(arguments)[:300])


def check_wrong(case, function, good, wrong):
    """Each wrong argument alone raises its error; of several the first one does.

    `wrong` has a tuple (error, wrong values) for each argument.
    """
    for place, (error, values) in enumerate(wrong):
        for value in values:
            is_raised(case, error, function, [*good[:place], value, *good[place + 1:]])
    for places in subsets(len(good)):
        error, values = wrong[places[0]]
        for value in values:
            arguments = list(good)
            for place in places:
                arguments[place] = wrong[place][1][0]
            arguments[places[0]] = value
            is_raised(case, error, function, arguments)


def subsets(many):
    """All ascending choices of two places or more."""
    return [chosen for size in range(2, many + 1) for chosen in itertools.combinations(range(many), size)]


def called(case, function, *arguments):
    """What a call returns; its arguments must stay as they are."""
    before = copy.deepcopy(arguments)
    answer = function(*arguments)
    case.assertEqual(arguments, before)
    return answer
