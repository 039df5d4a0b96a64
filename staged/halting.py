"""Whether staging ends, with what shows it: the points met, or a walk that can climb for ever."""

from staged.programs import check_program, find_function
from staged.values import check_early, check_number, is_integer, reach, turn_round
from staged.walks import called_points, common, ground, height, is_point

MOST_WALK = 30000
MOST_ENDING = 100


def check_start(program, name, early):
    """Raise the error of the first one that is wrong of a program, a name and an early number."""
    check_program(program)
    find_function(program, name)
    check_early(early)


def meet(program, starts, least, most):
    """Return a dict from each point met to the points that it calls, in the order of a search in breadth.

    A point with an early number below the least or above the most is met, but not gone on from: it has no points there.
    """
    met = {}
    waiting = starts
    while waiting:
        ahead = []
        for point in waiting:
            if point not in met:
                met[point] = called_points(program, point) if least <= point[1] <= most else ()
                ahead.extend(met[point])
        waiting = ahead
    return met


def _walk_between(met, start, end):
    """Return a shortest walk from where a search began to a point that it met."""
    callers = turn_round(met)
    walk = [end]
    while walk[-1] != start:
        # The first caller was met ahead of the point itself, so going back comes to the start.
        walk.append(callers[walk[-1]][0])
    return tuple(walk[::-1])


def _find_climb(walk, low, step):
    """Return two indexes of a walk to above the height between which it climbs above low, by a multiple of step."""
    lowest = {}
    for at, (name, early) in enumerate(walk):
        if early <= low:
            lowest = {}
            continue
        kind = (name, early % step)
        if kind in lowest and walk[lowest[kind]][1] < early:
            return lowest[kind], at
        lowest[kind] = at
    # Not come to: above the ground, more points of the walk top all before them than there are kinds of points.
    return None


def _leading_above(met, most):
    """Return a dict of the points met from which a point with an early number above the most can be come to."""
    return reach([point for point in met if point[1] > most], turn_round(met))


def ends(program, name, early):
    """Tell whether staging meets finitely many points."""
    return points(program, name, early) is not None


def points(program, name, early):
    """Return the ascending tuple of the points that staging meets, None if it never ends."""
    check_start(program, name, early)
    most = height(program, early)
    met = meet(program, [(name, early)], 0, most)
    if any(number > most for _, number in met):
        return None
    return tuple(sorted(met))


def climb(program, name, early):
    """Return a walk of points and two indexes of it that show that staging never ends, None if it ends."""
    check_start(program, name, early)
    most = height(program, early)
    met = meet(program, [(name, early)], 0, most)
    above = [point for point in met if point[1] > most]
    if not above:
        return None
    walk = _walk_between(met, (name, early), above[0])
    first, second = _find_climb(walk, ground(program), common(program))
    return walk[:second + 1], first, second


def _is_walk(program, start, value):
    """Tell whether a value is a tuple of points from a start on, each other one called by the one before."""
    if not isinstance(value, tuple) or not 1 <= len(value) <= MOST_WALK:
        return False
    if not all(is_point(program, point) for point in value) or value[0] != start:
        return False
    return all(other in called_points(program, one) for one, other in zip(value, value[1:]))


def _climbs(program, walk, first, second):
    """Tell whether a walk can be done again and again from one index to another."""
    name, low = walk[first]
    other, high = walk[second]
    if name != other or high <= low or (high - low) % common(program) != 0:
        return False
    bound = ground(program)
    return all(early > bound for _, early in walk[first:second + 1])


def shows_climb(program, name, early, value):
    """Tell whether a value shows that staging never ends, as what climb returns does, or is None where it ends."""
    check_start(program, name, early)
    if value is None:
        return ends(program, name, early)
    if not isinstance(value, tuple) or len(value) != 3 or not _is_walk(program, (name, early), value[0]):
        return False
    walk, first, second = value
    if not is_integer(first, 0, len(walk) - 1) or not is_integer(second, first + 1, len(walk) - 1):
        return False
    return _climbs(program, walk, first, second)


def shows_closed(program, name, early, value):
    """Tell whether a value is an ascending tuple of points, the staging's among them, that call none but these."""
    check_start(program, name, early)
    if not isinstance(value, tuple) or not all(is_point(program, point) for point in value):
        return False
    if any(one >= other for one, other in zip(value, value[1:])):
        return False
    held = set(value)
    if (name, early) not in held:
        return False
    for point in value:
        for other in called_points(program, point):
            if other not in held:
                return False
    return True


def ending_numbers(program, name, most):
    """Return the ascending tuple of the early numbers up to most for which staging ends."""
    check_program(program)
    find_function(program, name)
    check_number(most, MOST_ENDING)
    # The height of the greatest early number does for the lesser ones, too: what goes on for ever gets above any bound.
    bound = height(program, most)
    met = meet(program, [(name, early) for early in range(most + 1)], 0, bound)
    endless = _leading_above(met, bound)
    return tuple([early for early in range(most + 1) if (name, early) not in endless])
