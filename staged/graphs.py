"""Which functions of a plain program come to which others: flat functions, loops, and the longest chain of calls."""

from staged.plains import called_names, check_plain
from staged.values import reach, turn_round


def _find_called(plain):
    """Return a dict from the name of each function to the list of the names that it calls, each once."""
    return {name: sorted(set(called_names(body))) for name, _, body in plain}


def _count_last_calls(body):
    """Return the number of the calls in the last place of a body."""
    many = 0
    waiting = [body]
    while waiting:
        expression = waiting.pop()
        if expression[0] == "if":
            waiting.extend(expression[2:])
        elif expression[0] == "call":
            many += 1
    return many


def flat_functions(plain):
    """Return the names of the functions that come to no call but such in the last place."""
    check_plain(plain)
    others = [name for name, _, body in plain if len(called_names(body)) > _count_last_calls(body)]
    uneven = reach(others, turn_round(_find_called(plain)))
    return tuple([name for name, _, _ in plain if name not in uneven])


def loops(plain):
    """Return the names of the functions that come to themselves."""
    check_plain(plain)
    called = _find_called(plain)
    return tuple([name for name, _, _ in plain if name in reach(called[name], called)])


def longest_chain(plain):
    """Return the greatest number of functions that call one another from the start on, None if there is a loop."""
    check_plain(plain)
    called = _find_called(plain)
    last = [plain[0][0]]
    for length in range(1, len(plain) + 1):
        ahead = {other: True for name in last for other in called[name]}
        if not ahead:
            return length
        last = list(ahead)
    # A chain of more functions than there are has one of them twice.
    return None
