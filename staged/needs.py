"""Late numbers of plain programs that play no part in any answer, that can go, or that are always the same number."""

from staged.plains import called_names, check_plain
from staged.programs import inner_nodes, with_inner
from staged.values import reach


def _find_places(plain):
    """Return a list of triples (name, node, place) for all nodes of the bodies of a plain program's functions.

    The place is the pair of a name and an index of the late number for which the innermost call around the node hands
    it on, or something that it is a part of; None for a node outside the late expressions of calls.
    """
    found = []
    for name, _, body in plain:
        waiting = [(body, None)]
        while waiting:
            node, place = waiting.pop()
            found.append((name, node, place))
            for at, part in enumerate(inner_nodes(node)):
                waiting.append((part, (node[1], at) if node[0] == "call" else place))
    return found


def _find_standing(places):
    """Return a dict from each place to the list of the late numbers, by name and index, that stand there."""
    standing = {}
    for name, node, place in places:
        if node[0] == "late":
            standing.setdefault(place, []).append((name, node[1]))
    return standing


def _all_pairs(plain):
    """Return the list of all late numbers of a plain program, by name and index."""
    return [(name, index) for name, lates, _ in plain for index in range(lates)]


def needless(plain):
    """Return the ascending tuple of the late numbers, by name and index, that play no part in any answer."""
    check_plain(plain)
    needed = reach([None], _find_standing(_find_places(plain)))
    return tuple(sorted([pair for pair in _all_pairs(plain) if pair not in needed]))


def _find_staying(plain):
    """Return a dict of True for the late numbers, by name and index, that must stay; None is in it, too."""
    places = _find_places(plain)
    start, many, _ = plain[0]
    of_start = [(start, index) for index in range(many)]
    with_calls = [place for _, node, place in places if node[0] == "call"]
    return reach([None] + of_start + with_calls, _find_standing(places))


def _slim(node, name, kept):
    """Return an expression or a test of a function without what goes; kept holds each function's indexes that stay."""
    if node[0] == "late":
        return ("late", kept[name].index(node[1]))
    if node[0] == "call":
        return ("call", node[1], tuple([_slim(node[2][index], name, kept) for index in kept[node[1]]]))
    return with_inner(node, [_slim(part, name, kept) for part in inner_nodes(node)])


def slimmed(plain):
    """Return the plain program without the late numbers that can go."""
    check_plain(plain)
    staying = _find_staying(plain)
    kept = {name: [index for index in range(lates) if (name, index) in staying] for name, lates, _ in plain}
    return tuple([(name, len(kept[name]), _slim(body, name, kept)) for name, _, body in plain])


def _find_handed(plain):
    """Return a dict from late numbers to the lists of what calls hand on for them in functions that the start reaches.

    A late number that its own function hands on for itself is left out.
    """
    reached = reach([plain[0][0]], {name: called_names(body) for name, _, body in plain})
    handed = {}
    for name, node, _ in _find_places(plain):
        if name in reached and node[0] == "call":
            for index, late in enumerate(node[2]):
                if node[1] != name or late != ("late", index):
                    handed.setdefault((node[1], index), []).append(late)
    return handed


def settled(plain):
    """Return the ascending tuple of the late numbers, by name and index, that are always a number, with that number."""
    check_plain(plain)
    start = plain[0][0]
    found = []
    for (name, index), lates in _find_handed(plain).items():
        first = lates[0]
        if name != start and first[0] == "number" and all(late == first for late in lates):
            found.append((name, index, first[1]))
    return tuple(sorted(found))
