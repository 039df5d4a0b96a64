"""Alike points and functions, and the least programs, which have one function for each lot of alike ones."""

from staged.descents import point_ends
from staged.errors import NotEnding, TooMany
from staged.plains import called_names, check_plain
from staged.programs import check_program, inner_nodes, nodes, with_inner
from staged.staging import MOST_MET, plain_name, points_staged, staged_function
from staged.values import is_integer, reach
from staged.walks import called_points, check_point

MOST_PATH = 1000


def _node_text(node):
    """Return a text of a node of a plain expression without its parts and without the name that it calls."""
    word = node[0]
    if word == "call":
        return f"call {len(node[-1])}"
    if word in ("number", "late"):
        return f"{word} {node[1]}"
    return word


def _shape(lates, body):
    """Return a text that two functions share if they differ only in their names and the names that they call."""
    return ", ".join([str(lates)] + [_node_text(node) for node in nodes(body)])


def _describe(plains):
    """Return a dict of the shapes of the functions of plain programs, and one of the lists of functions that they call.

    A function is told by its program's index and its name.
    """
    shapes = {}
    called = {}
    for at, plain in enumerate(plains):
        for name, lates, body in plain:
            shapes[(at, name)] = _shape(lates, body)
            called[(at, name)] = [(at, other) for other in called_names(body)]
    return shapes, called


def _number(marks):
    """Return a dict from each key to a number, the same one for the same mark."""
    numbers = {}
    found = {}
    for key, mark in marks.items():
        found[key] = numbers.setdefault(mark, len(numbers))
    return found


def _find_kinds(shapes, called):
    """Return a dict from each function to a number, the same one for those that are alike."""
    kinds = _number(shapes)
    many = 0
    while many < len(set(list(kinds.values()))):
        # As long as there are more kinds each time, some that were taken for alike call what is not.
        many = len(set(list(kinds.values())))
        kinds = _number({one: (kinds[one], *[kinds[other] for other in called[one]]) for one in shapes})
    return kinds


def _first_unlike(shapes, called, start):
    """Return the smallest of the shortest paths from a pair of functions to a pair of unlike shapes, or None."""
    came = {start: None}
    waiting = [start]
    while waiting:
        ahead = []
        for pair in waiting:
            one, other = pair
            if shapes[one] != shapes[other]:
                return _path_to(pair, came)
            for index, following in enumerate(zip(called[one], called[other])):
                if following not in came:
                    came[following] = (pair, index)
                    ahead.append(following)
        waiting = ahead
    return None


def _path_to(pair, came):
    """Return the path on which a search came to a pair; came holds the pair and the index before each one."""
    path = []
    while came[pair] is not None:
        pair, index = came[pair]
        path.append(index)
    return tuple(path[::-1])


def _find_few(program, point):
    """Return a dict of True for the points that the staging of a point meets, None if they are too many."""
    met = {}
    waiting = [point]
    while waiting and len(met) <= MOST_MET:
        one = waiting.pop()
        if one not in met:
            met[one] = True
            waiting.extend(called_points(program, one))
    return met if len(met) <= MOST_MET else None


def _meet_ending(program, point):
    """Return the points that the staging of a point meets, None if they are too many; raise BadPoint or NotEnding."""
    check_point(program, point)
    met = _find_few(program, point)
    if met is None and not point_ends(program, point):
        raise NotEnding("the staging of the point never ends")
    return met


def _key(point):
    """Return what tells the function of a point among those of one program."""
    return (0, plain_name(point))


def _describe_two(program, one, other):
    """Return what _describe does for all points that two points meet, or raise the error of what is wrong."""
    check_program(program)
    ones = _meet_ending(program, one)
    others = _meet_ending(program, other)
    if ones is None or others is None:
        raise TooMany(MOST_MET)
    met = list(ones) + [point for point in others if point not in ones]
    return _describe([[staged_function(program, point) for point in met]])


def alike(program, one, other):
    """Tell whether two points are alike."""
    shapes, called = _describe_two(program, one, other)
    kinds = _find_kinds(shapes, called)
    return kinds[_key(one)] == kinds[_key(other)]


def unlike_path(program, one, other):
    """Return the smallest of the shortest paths to bodies in which two points are unlike, None if they are alike."""
    shapes, called = _describe_two(program, one, other)
    return _first_unlike(shapes, called, (_key(one), _key(other)))


def shows_unlike_path(program, one, other, value):
    """Tell whether a value is a path to bodies in which two points are unlike, or is None where they are alike."""
    shapes, called = _describe_two(program, one, other)
    pair = (_key(one), _key(other))
    if value is None:
        return _first_unlike(shapes, called, pair) is None
    if not isinstance(value, tuple) or len(value) > MOST_PATH:
        return False
    for index in value:
        ones, others = [called[part] for part in pair]
        if not is_integer(index, 0, min(len(ones), len(others)) - 1):
            return False
        pair = (ones[index], others[index])
    return shapes[pair[0]] != shapes[pair[1]]


def _find_lots(program, met):
    """Return the ascending list of the lots of alike points, each ascending, of those that a staging meets."""
    shapes, called = _describe([[staged_function(program, point) for point in met]])
    kinds = _find_kinds(shapes, called)
    found = {}
    for point in met:
        found.setdefault(kinds[_key(point)], []).append(point)
    return [tuple(lot) for lot in found.values()]


def lots(program, name, early):
    """Return the ascending tuple of the lots of alike points of a staging, None if it never ends."""
    met = points_staged(program, name, early)
    if met is None:
        return None
    return tuple(_find_lots(program, met))


def _renamed(node, names):
    """Return a plain expression, or a test of one, with other names in its calls."""
    parts = [_renamed(part, names) for part in inner_nodes(node)]
    if node[0] == "call":
        return ("call", names[node[1]], tuple(parts))
    return with_inner(node, parts)


def _renamed_function(function, names):
    """Return a function of a plain program with other names."""
    name, lates, body = function
    return (names[name], lates, _renamed(body, names))


def least(program, name, early):
    """Return the staged program with one function for each lot of alike points, None if staging never ends."""
    met = points_staged(program, name, early)
    if met is None:
        return None
    found = _find_lots(program, met)
    names = {plain_name(point): plain_name(lot[0]) for lot in found for point in lot}
    start = (name, early)
    ordered = [lot for lot in found if start in lot] + [lot for lot in found if start not in lot]
    return tuple([_renamed_function(staged_function(program, lot[0]), names) for lot in ordered])


def plain_alike(one, other):
    """Tell whether the starts of two plain programs are alike."""
    check_plain(one)
    check_plain(other)
    shapes, called = _describe([one, other])
    kinds = _find_kinds(shapes, called)
    return kinds[(0, one[0][0])] == kinds[(1, other[0][0])]


def plain_least(plain):
    """Return the plain program with one function for each lot of alike ones of those that the start reaches."""
    check_plain(plain)
    shapes, called = _describe([plain])
    kinds = _find_kinds(shapes, called)
    reached = reach([(0, plain[0][0])], called)
    firsts = {}
    names = {}
    for name, _, _ in plain:
        if (0, name) in reached:
            names[name] = firsts.setdefault(kinds[(0, name)], name)
    return tuple([_renamed_function(function, names) for function in plain if names.get(function[0]) == function[0]])
