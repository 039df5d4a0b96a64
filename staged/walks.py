"""Points: which points a point calls, and bounds of how far a walk from point to point can go."""

from math import lcm

from staged.errors import BadPoint
from staged.programs import branch_taken, check_program, find_function, inner_nodes, moved, nodes
from staged.values import MOST_POINT, check_early, is_integer


def is_point(program, value):
    """Tell whether a value is a point of a program."""
    if not isinstance(value, tuple) or len(value) != 2:
        return False
    name, early = value
    return is_integer(early, 0, MOST_POINT) and any(name == title for title, _, _ in program)


def check_point(program, value):
    """Raise BadPoint for a value that is no point of a program."""
    if not is_point(program, value):
        raise BadPoint("not a pair of a function's name and an integer from 0 to 10000000")


def nodes_left(program, point):
    """Return the nodes of the body of a point's function that are left or worked out for its early number."""
    name, early = point
    found = []
    waiting = [find_function(program, name)[2]]
    while waiting:
        node = waiting.pop()
        found.append(node)
        if node[0] == "if" and node[1][0] != "less":
            waiting.append(branch_taken(node, early))
        else:
            waiting.extend(inner_nodes(node))
    return found


def called_points(program, point):
    """Return the ascending tuple of the points that a point calls."""
    early = point[1]
    # A point may call a number beyond those of points: it is told all the same.
    return tuple(sorted({(node[1], moved(early, node[2])) for node in nodes_left(program, point) if node[0] == "call"}))


def _all_nodes(program):
    """Return the nodes of all bodies of a program."""
    return [node for _, _, body in program for node in nodes(body)]


def _moves(program):
    """Return the moves of all calls of a program."""
    return [node[2] for node in _all_nodes(program) if node[0] == "call"]


def next_points(program, point):
    """Return the ascending tuple of the points that a point calls."""
    check_program(program)
    check_point(program, point)
    return called_points(program, point)


def ground(program):
    """Return the number above which no test below holds, no move gives and no move down stops short."""
    check_program(program)
    bounds = [node[1] for node in _all_nodes(program) if node[0] == "below"]
    given = [number for word, number in _moves(program) if word == "give"]
    downs = [-number for word, number in _moves(program) if word == "move"]
    return max([0] + bounds + given + downs)


def common(program):
    """Return the least common multiple of 1 and all numbers that tests rest divide by."""
    check_program(program)
    multiple = 1
    for node in _all_nodes(program):
        if node[0] == "rest":
            multiple = lcm(multiple, node[1])
    return multiple


def rise(program):
    """Return the greatest number by which a move goes up, 0 if none does."""
    check_program(program)
    return max([0] + [number for word, number in _moves(program) if word == "move"])


def height(program, early):
    """Return the early number above which staging comes only if it never ends."""
    check_program(program)
    check_early(early)
    return max(early, ground(program)) + len(program) * common(program) * rise(program)
