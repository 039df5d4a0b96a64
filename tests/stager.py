"""A second way to put in early numbers, and to follow the points that staging meets."""

import functools

MOST = 10 ** 30


@functools.lru_cache(maxsize=10000)
def is_early(expression):
    return "'late'" not in str(expression) and "'call'" not in str(expression)


def value_of(expression, early):
    """Return the value of an early expression, and the steps it takes."""
    word = expression[0]
    if word == "number":
        return expression[1], 0
    if word == "early":
        return early, 0
    if word == "if":
        value, steps = value_of(expression[2 if holds(expression[1], early) else 3], early)
        return value, steps + 1
    (one, some), (other, more) = [value_of(part, early) for part in expression[1:]]
    value = {"plus": one + other, "minus": one - other, "times": one * other}[word]
    return min(max(value, 0), MOST), some + more + 1


def holds(test, early):
    return early < test[1] if test[0] == "below" else early % test[1] == test[2]


class Stager:
    """What is left of expressions for one early number, with the points called and the steps made on the way."""

    def __init__(self, early):
        self.early = early
        self.steps = 0
        self.called = []

    def left(self, expression):
        word = expression[0]
        if is_early(expression):
            value, steps = value_of(expression, self.early)
            self.steps += steps
            return ("number", value)
        if word == "late":
            return expression
        if word == "call":
            return self.call(expression)
        if word != "if":
            return (word, self.left(expression[1]), self.left(expression[2]))
        test, one, other = expression[1:]
        if test[0] == "less":
            test = ("less", self.left(test[1]), self.left(test[2]))
            return ("if", test, self.left(one), self.left(other))
        self.steps += 1
        return self.left(one if holds(test, self.early) else other)

    def call(self, expression):
        _, name, (word, number), lates = expression
        point = (name, number if word == "give" else max(0, self.early + number))
        self.called.append(point)
        self.steps += word == "move" and number != 0
        return ("call", "_".join([name, str(point[1])]), tuple(map(self.left, lates)))


def staged_point(program, point):
    """Return the plain function of a point, the set of points that it calls, and the early steps made there."""
    (lates, body), = [function[1:] for function in program if function[0] == point[0]]
    stager = Stager(point[1])
    left = stager.left(body)
    return ("_".join([point[0], str(point[1])]), lates, left), set(stager.called), stager.steps


def points_met(program, start, bound):
    """Return the set of the points that staging meets, None if it comes above the bound, which is great enough."""
    found, waiting = set(), {start}
    while waiting:
        if max(early for _, early in waiting) > bound:
            return None
        found |= waiting
        waiting = set().union(*[staged_point(program, point)[1] for point in waiting]) - found
    return found


def is_point(program, value):
    return type(value) is tuple and len(value) == 2 and type(value[1]) is int and 0 <= value[1] <= 10000000 and (
        type(value[0]) is str and value[0] in [name for name, _, _ in program])


def is_climb(program, start, value, low, step):
    """Tell whether a value is a triple as point 6 describes, for this ground and least common multiple."""
    if type(value) is not tuple or len(value) != 3 or type(value[0]) is not tuple:
        return False
    walk, first, second = value
    if type(first) is not int or type(second) is not int or not 0 <= first < second < len(walk) <= 30000:
        return False
    if not all([is_point(program, point) for point in walk]) or walk[0] != start:
        return False
    for at in range(len(walk) - 1):
        if walk[at + 1] not in staged_point(program, walk[at])[1]:
            return False
    up = walk[second][1] - walk[first][1]
    between = [early for _, early in walk[first:second + 1]]
    return walk[first][0] == walk[second][0] and up > 0 and up % step == 0 and min(between) > low


def is_closed(program, start, value):
    """Tell whether a value is a tuple as point 6 describes for shows_closed."""
    if type(value) is not tuple or not all([is_point(program, point) for point in value]):
        return False
    called = set().union(*[staged_point(program, point)[1] for point in value])
    return list(value) == sorted(set(value)) and start in value and called <= set(value)
