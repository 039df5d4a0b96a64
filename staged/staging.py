"""Staging: what is left of a program when the early number is put in, and what it costs to do so ahead."""

from staged.errors import TooMany
from staged.halting import points
from staged.programs import branch_taken, check_program, find_function, has_no_late_part, is_early_step, moved
from staged.runs import run
from staged.values import OPERATIONS, operate
from staged.walks import check_point, nodes_left

MOST_MET = 300


def plain_name(point):
    """Return the name of a point's function in a staged program."""
    name, early = point
    return f"{name}_{early}"


def _stage_operation(expression, early):
    """Return what is left of a plus, a minus or a times."""
    word = expression[0]
    one = _stage(expression[1], early)
    other = _stage(expression[2], early)
    if has_no_late_part(expression):
        # The parts are early, too, so only their values are left of them.
        return ("number", operate(word, one[1], other[1]))
    return (word, one, other)


def _stage_if(expression, early):
    """Return what is left of an if."""
    _, test, one, other = expression
    if test[0] != "less":
        return _stage(branch_taken(expression, early), early)
    compared = ("less", _stage(test[1], early), _stage(test[2], early))
    return ("if", compared, _stage(one, early), _stage(other, early))


def _stage_call(expression, early):
    """Return what is left of a call."""
    _, name, move, lates = expression
    return ("call", plain_name((name, moved(early, move))), tuple([_stage(late, early) for late in lates]))


def _stage(expression, early):
    """Return the plain expression that is left of an expression when an early number is put in."""
    word = expression[0]
    if word == "early":
        return ("number", early)
    if word == "if":
        return _stage_if(expression, early)
    if word == "call":
        return _stage_call(expression, early)
    if word in OPERATIONS:
        return _stage_operation(expression, early)
    return expression


def staged_function(program, point):
    """Return the function of a staged program for a point."""
    name, early = point
    _, lates, body = find_function(program, name)
    return (plain_name(point), lates, _stage(body, early))


def points_staged(program, name, early):
    """Return the points that staging meets, None if it never ends; raise TooMany if they are too many to stage."""
    met = points(program, name, early)
    if met is not None and len(met) > MOST_MET:
        raise TooMany(MOST_MET)
    return met


def staged(program, name, early):
    """Return the plain program of a staging, None if it never ends."""
    met = points_staged(program, name, early)
    if met is None:
        return None
    start = (name, early)
    others = [point for point in met if point != start]
    return tuple([staged_function(program, point) for point in [start] + others])


def body_of(program, point):
    """Return the body of a point's function in a staged program."""
    check_program(program)
    check_point(program, point)
    return staged_function(program, point)[2]


def _is_step(node):
    """Tell whether staging makes an early step at a node that is left or worked out, besides those at its parts."""
    if node[0] == "if":
        return node[1][0] != "less"
    if node[0] == "call":
        return is_early_step(node[2])
    return node[0] in OPERATIONS and has_no_late_part(node)


def staging_steps(program, name, early):
    """Return the number of early steps made in staging, all points together, None if it never ends."""
    met = points_staged(program, name, early)
    if met is None:
        return None
    return sum([1 for point in met for node in nodes_left(program, point) if _is_step(node)])


def pays_from(program, name, early, lates, fuel):
    """Return the least number of runs whose early steps together are no fewer than the staging's, None if none is."""
    answer = run(program, name, early, lates, fuel)
    steps = staging_steps(program, name, early)
    if steps is None or answer is None or answer[1] == 0:
        return None
    # Where a run makes an early step, staging makes it, too: so this is 1 at least.
    return (steps + answer[1] - 1) // answer[1]
