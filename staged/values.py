"""What several modules share: integers, arguments of runs, and arithmetic."""

from staged.errors import BadFuel, BadLates, BadNumber

MOST_NUMBER = 1000000
MOST_EARLY = 1000
MOST_POINT = 10000000
MOST_FUEL = 100000
MOST_VALUE = 10 ** 30
OPERATIONS = ("plus", "minus", "times")


def is_integer(value, low, high):
    """Tell whether a value is an integer from low to high."""
    # Python counts True and False as integers; here they are none.
    return isinstance(value, int) and not isinstance(value, bool) and low <= value <= high


def check_number(value, most):
    """Raise BadNumber for a value that is no integer from 0 to most."""
    if not is_integer(value, 0, most):
        raise BadNumber(f"not an integer from 0 to {most}")


def check_early(value):
    """Raise BadNumber for a value that is no early number to begin with."""
    check_number(value, MOST_EARLY)


def check_lates(value, many):
    """Raise BadLates for a value that is no tuple of this many numbers."""
    if not isinstance(value, tuple) or len(value) != many:
        raise BadLates("not a tuple of as many numbers as there are late ones")
    if not all(is_integer(number, 0, MOST_NUMBER) for number in value):
        raise BadLates("not all late numbers are integers from 0 to 1000000")


def check_fuel(value):
    """Raise BadFuel for a value that is no fuel."""
    if not is_integer(value, 0, MOST_FUEL):
        raise BadFuel("not an integer from 0 to 100000")


def turn_round(onward):
    """Return a dict from each one to the list of those that it is right behind, in the order of the dict onward."""
    back = {one: [] for one in onward}
    for one, others in onward.items():
        for other in others:
            back[other].append(one)
    return back


def reach(starts, onward):
    """Return a dict of True for all that can be come to from the starts, these too.

    The dict onward holds the list of what is right behind each one, and nothing for one that leads nowhere.
    """
    found = {}
    waiting = list(starts)
    while waiting:
        one = waiting.pop()
        if one not in found:
            found[one] = True
            waiting.extend(onward.get(one, ()))
    return found


def operate(word, one, other):
    """Return the value of a plus, a minus or a times of two values."""
    if word == "plus":
        return min(one + other, MOST_VALUE)
    if word == "minus":
        return max(one - other, 0)
    return min(one * other, MOST_VALUE)
