"""Holds functions against wrong arguments of all kinds."""

import copy

from tests.samples import VALUES


def is_number(most):
    """Return a function that tells whether a value is an integer from 0 to the most."""
    return lambda value: type(value) is int and 0 <= value <= most


def is_good(good):
    """Return a function that tells whether a value is the good one; for values that True and False are not equal to."""
    return lambda value: value == good


def never(_):
    """Tell that a value is not allowed."""
    return False


class Argument:
    """What an argument must be: a good value, a wrong one, the error for it, and which of VALUES are allowed."""

    def __init__(self, good, wrong, error, allows=never):
        self.good = good
        self.wrong = wrong
        self.error = error
        self.allows = allows


def check_values(case, function, arguments):
    """Hold the function against values of all kinds in the place of each argument."""
    good = [argument.good for argument in arguments]
    for at, argument in enumerate(arguments):
        for number, value in enumerate((argument.wrong,) + VALUES):
            if number == 0 or not argument.allows(value):
                with case.subTest(function.__name__, at=at, number=number):
                    case.assertRaises(argument.error, function, *good[:at], value, *good[at + 1:])


def check_order(case, function, arguments, rest=()):
    """Hold the function against several wrong arguments at once; the rest stands behind them and is never wrong."""
    good = [argument.good for argument in arguments]
    wrong = [argument.wrong for argument in arguments]
    for one, argument in enumerate(arguments):
        for other in range(one, len(arguments)):
            tried = [wrong[at] if at in (one, other) else good[at] for at in range(len(arguments))]
            with case.subTest(function.__name__, one=one, other=other):
                case.assertRaises(argument.error, function, *tried, *rest)
        with case.subTest(function.__name__, one=one):
            case.assertRaises(argument.error, function, *good[:one], *wrong[one:], *rest)
            case.assertRaises(argument.error, function, *good[:one], *[None] * (len(good) - one), *rest)
            case.assertRaises(argument.error, function, *good[:one], *[{}] * (len(good) - one), *rest)


def check_unchanged(case, function, arguments, rest=()):
    """Hold the function to changing no argument, be the call right or wrong."""
    good = [argument.good for argument in arguments]
    kept = copy.deepcopy(good)
    function(*good, *rest)
    case.assertEqual(good, kept)
    for at, argument in enumerate(arguments):
        for value in ([1, [2]], {"pow": [1]}, (["pow"],), [("pow", 1)]):
            kept = copy.deepcopy(value)
            case.assertRaises(argument.error, function, *good[:at], value, *good[at + 1:], *rest)
            case.assertEqual(value, kept)


def check_arguments(case, function, *arguments):
    """Hold the function against all of these."""
    check_values(case, function, arguments)
    check_order(case, function, arguments)
    check_unchanged(case, function, arguments)
