"""A second way to tell which functions are alike, by pairs that are found unlike, and paths tried one after another."""

import itertools

from tests.stager import points_met, staged_point


def nameless(expression):
    """Return an expression, or a test, without the names of its calls."""
    word, *parts = expression
    if word == "call":
        return ("call", tuple(map(nameless, parts[-1])))
    return (word, *[nameless(part) if type(part) is tuple else part for part in parts])


def names_called(expression):
    """Return the names that calls have, in the order of the text."""
    word, *parts = expression
    if word == "call":
        return [parts[0]] + [name for part in parts[-1] for name in names_called(part)]
    return [name for part in parts if type(part) is tuple for name in names_called(part)]


def renamed(expression, names):
    """Return an expression, or a test, with other names."""
    word, *parts = expression
    if word == "call":
        return ("call", names[parts[0]], tuple(renamed(part, names) for part in parts[1]))
    return (word, *[renamed(part, names) if type(part) is tuple else part for part in parts])


class Graph:
    """Functions by keys, with what tells them apart at once, and the keys that they call."""

    def __init__(self, functions):
        self.looks = {}
        self.called = {}
        for mark, (name, lates, body) in functions:
            self.looks[(mark, name)] = (lates, nameless(body))
            self.called[(mark, name)] = [(mark, other) for other in names_called(body)]

    def unlike_pairs(self):
        """Return the set of the pairs of keys that are not alike."""
        pairs = list(itertools.product(self.looks, repeat=2))
        unlike = {pair for pair in pairs if self.looks[pair[0]] != self.looks[pair[1]]}
        while True:
            more = {(one, other) for one, other in pairs if (one, other) not in unlike
                    and any(pair in unlike for pair in zip(self.called[one], self.called[other]))}
            if not more:
                return unlike
            unlike |= more

    def follow(self, key, path):
        """Return the key to which a path leads, None if it leads nowhere."""
        for index in path:
            if type(index) is not int or not 0 <= index < len(self.called[key]):
                return None
            key = self.called[key][index]
        return key

    def is_path(self, one, other, value):
        """Tell whether a value is a path to keys that are told apart at once."""
        if type(value) is not tuple or len(value) > 1000:
            return False
        ends = self.follow(one, value), self.follow(other, value)
        return None not in ends and self.looks[ends[0]] != self.looks[ends[1]]

    def smallest_path(self, one, other, most):
        """Return the first path, by length and then by its indexes, to keys that are told apart at once."""
        for length in range(most + 1):
            width = max(len(called) for called in self.called.values())
            for path in itertools.product(range(width), repeat=length):
                if self.is_path(one, other, path):
                    return path
        return None


def graph_of_points(program, points):
    """Return the graph of points, each by ("", its plain name)."""
    return Graph([("", staged_point(program, point)[0]) for point in sorted(points)])


def key_of(point):
    return ("", "_".join([point[0], str(point[1])]))


def lots_of(program, start, bound):
    """Return the ascending tuple of the lots of alike points, None if staging comes above the bound."""
    met = points_met(program, start, bound)
    if met is None:
        return None
    unlike = graph_of_points(program, met).unlike_pairs()
    found = {tuple(other for other in sorted(met) if (key_of(one), key_of(other)) not in unlike) for one in met}
    return tuple(sorted(found))


def least_of(program, start, bound):
    """Return the least staged program, None if staging comes above the bound."""
    lots = lots_of(program, start, bound)
    if lots is None:
        return None
    names = {key_of(point)[1]: key_of(lot[0])[1] for lot in lots for point in lot}
    functions = [staged_point(program, lot[0])[0] for lot in sorted(lots, key=lambda lot: start not in lot)]
    return tuple((name, lates, renamed(body, names)) for name, lates, body in functions)


def least_plain(plain):
    """Return the plain program with one function for each lot of alike ones that the start reaches."""
    graph = Graph([("", function) for function in plain])
    reached = {("", plain[0][0])}
    for _ in plain:
        reached |= {other for key in reached for other in graph.called[key]}
    kept = [function for function in plain if ("", function[0]) in reached]
    unlike = graph.unlike_pairs()
    names = {name: next(other for other, _, _ in kept if (("", name), ("", other)) not in unlike) for name, _,
             _ in kept}
    return tuple((name, lates, renamed(body, names)) for name, lates, body in kept if names[name] == name)
