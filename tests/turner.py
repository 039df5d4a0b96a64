"""A second way to let a late number and the early one change places: by rules that are tried one after another."""

from tests.checker import checked


class Unwritable(Exception):
    """There is no such program."""


def need(holds):
    if not holds:
        raise Unwritable


def move_from(late, index):
    """Return the move for a late expression that is handed on for the early number."""
    if late[0] == "number":
        need(late[1] <= 1000)
        return ("give", late[1])
    if late == ("late", index):
        return ("move", 0)
    need(late[0] in ("plus", "minus") and late[1] == ("late", index) and late[2][0] == "number" and late[2][1] <= 5)
    return ("move", {"plus": 1, "minus": -1}[late[0]] * late[2][1])


def late_from(move, index):
    """Return the late expression for a move of the early number."""
    if move[0] == "give":
        return ("number", move[1])
    sign = (move[1] > 0) - (move[1] < 0)
    return [("late", index), ("plus", ("late", index), ("number", move[1])),
            ("minus", ("late", index), ("number", -move[1]))][sign]


class Turner:
    """Turns expressions for one index; names is None where the early number is to become a late one."""

    def __init__(self, index, names=None):
        self.index = index
        self.names = names

    def late(self, number):
        if number == self.index:
            return ("early",)
        return ("late", number if self.names is None or number < self.index else number - 1)

    def call(self, name, move, lates):
        given = move_from(lates[self.index], self.index)
        handed = [self.expression(late) if at != self.index else None for at, late in enumerate(lates)]
        if self.names is None:
            handed[self.index] = late_from(move, self.index)
            return ("call", name, given, tuple(handed))
        del handed[self.index]
        return ("call", self.names[name], given, tuple(handed))

    def expression(self, expression):
        word, *parts = expression
        if word == "number":
            return expression
        if word == "early":
            return ("late", self.index)
        if word == "late":
            return self.late(parts[0])
        if word == "call":
            return self.call(parts[0], None if self.names else parts[1], parts[-1])
        if word != "if":
            return (word, *map(self.expression, parts))
        return self.choice(parts[0], *map(self.expression, parts[1:]))

    def choice(self, test, one, other):
        need(test[0] != "rest")
        if test[0] == "below":
            return ("if", ("less", ("late", self.index), ("number", test[1])), one, other)
        first, second = test[1:]
        if first == ("late", self.index) and second[0] == "number":
            need(second[1] <= 1000)
            return ("if", ("below", second[1]), one, other)
        if second == ("late", self.index) and first[0] == "number":
            need(first[1] <= 999)
            return ("if", ("below", first[1] + 1), other, one)
        test = ("less", self.expression(first), self.expression(second))
        need("late" in str(test) or "call" in str(test))
        return ("if", test, one, other)


def turned(functions, index, names=None):
    """Return the program, None if there is none; names holds the new names of plain functions."""
    try:
        need(min(lates for _, lates, _ in functions) > index)
        turner = Turner(index, names)
        program = tuple((names[name] if names else name, lates - (names is not None), turner.expression(body))
                        for name, lates, body in functions)
        need(checked(program))
        return program
    except Unwritable:
        return None
