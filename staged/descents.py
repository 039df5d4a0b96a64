"""Whether the staging of a point ends, be its early number as great as that of any point.

A point high above the ground may meet millions of points, so they are not followed one by one: to which points below
its early number a high point comes first depends only on its function and on what its number leaves.
"""

from staged.halting import meet
from staged.walks import common, ground, rise

MOST_FALL = 5


class Descent:
    """What is known of a program's high points: those from base on, from which moves down do not reach the ground."""

    def __init__(self, program):
        self.program = program
        self.period = common(program)
        self.base = ground(program) + MOST_FALL + 1
        self.top = self.base + self.period - 1
        # No walk climbs higher than this above where it began and stays above the ground, unless it climbs for ever.
        self.room = len(program) * self.period * rise(program)
        self.falls = {}


def _find_falls(descent, name, early):
    """Return the points below its early number to which a high point comes first, None if it climbs for ever."""
    bound = early + descent.room
    met = meet(descent.program, [(name, early)], early, bound)
    if any(number > bound for _, number in met):
        return None
    return [point for point in met if point[1] < early]


def _falls_from(descent, name, early):
    """Return what _find_falls does, found only once for each function and early number."""
    if (name, early) not in descent.falls:
        descent.falls[(name, early)] = _find_falls(descent, name, early)
    return descent.falls[(name, early)]


def _fall(descent, level, window, found):
    """Replace the names at a level by those right below to which they come; tell whether none climbs for ever.

    The window holds the names that are come to at the level, and those at each level below it as far as moves fall.
    Points to which calls give their early numbers are added to found.
    """
    names = window.pop(0)
    window.append({})
    early = descent.base + (level - descent.base) % descent.period
    for name in names:
        falls = _falls_from(descent, name, early)
        if falls is None:
            return False
        for other, number in falls:
            if number < early - MOST_FALL:
                found[(other, number)] = True
            else:
                window[early - number - 1][other] = True
    return True


def _come_down(descent, point):
    """Return the list of the points up to the top to which a point comes first, None if it climbs for ever above."""
    name, level = point
    window = [{name: True}] + [{} for _ in range(MOST_FALL - 1)]
    found = {}
    seen = {}
    while level > descent.top:
        state = (level % descent.period, *[tuple(sorted(names)) for names in window])
        if state in seen:
            # It goes on as it did from where this was seen, so all whole rounds above the top are left out.
            turn = seen[state] - level
            level -= turn * ((level - descent.top - 1) // turn)
        seen[state] = level
        if not _fall(descent, level, window, found):
            return None
        level -= 1
    return list(found) + [(other, level - at) for at, names in enumerate(window) for other in names]


def point_ends(program, point):
    """Tell whether the staging of a point meets finitely many points."""
    descent = Descent(program)
    starts = _come_down(descent, point)
    if starts is None:
        return False
    bound = descent.top + descent.room
    met = meet(program, starts, 0, bound)
    return all(number <= bound for _, number in met)
