"""A second way to tell what a program or a plain program is, to hold the package against."""

import re

BARRED = ("if", "then", "else", "mod", "a", "b", "c", "d", "e")


def is_int(value, low, high):
    return type(value) is int and low <= value <= high


def plain_name(value):
    letters = set("abcdefghijklmnopqrstuvwxyz")
    return type(value) is str and 1 <= len(value) <= 8 and set(value) <= letters and value not in BARRED


def tagged(value, tag, many):
    return type(value) is tuple and len(value) == many + 1 and type(value[0]) is str and value[0] == tag


class Wrong(Exception):
    """What is checked is no program."""


class Checker:
    """A second way to tell what a program is: it walks down and up again, and counts as it goes."""

    def __init__(self, arities):
        self.arities = arities
        self.many = 0

    def need(self, holds):
        if not holds:
            raise Wrong

    def enter(self, depth):
        self.many += 1
        self.need(depth <= 30 and self.many <= 300)

    def expression(self, value, lates, depth=1):
        """Return whether a late number or a call stands in an expression."""
        self.enter(depth)
        if tagged(value, "early", 0):
            return False
        if tagged(value, "number", 1):
            self.need(is_int(value[1], 0, 1000000))
            return False
        if tagged(value, "late", 1):
            self.need(is_int(value[1], 0, 3) and value[1] < lates)
            return True
        for tag in ("plus", "minus", "times"):
            if tagged(value, tag, 2):
                return any([self.expression(part, lates, depth + 1) for part in value[1:]])
        if tagged(value, "if", 3):
            found = [self.test(value[1], lates, depth + 1)]
            return any(found + [self.expression(part, lates, depth + 1) for part in value[2:]])
        self.need(tagged(value, "call", 3) and plain_name(value[1]) and value[1] in self.arities)
        self.move(value[2])
        self.need(type(value[3]) is tuple and len(value[3]) == self.arities[value[1]])
        for part in value[3]:
            self.expression(part, lates, depth + 1)
        return True

    def test(self, value, lates, depth):
        self.enter(depth)
        if tagged(value, "less", 2):
            self.need(any([self.expression(part, lates, depth + 1) for part in value[1:]]))
            return True
        self.need(tagged(value, "below", 1) and is_int(value[1], 0, 1000)
                  or tagged(value, "rest", 2) and is_int(value[1], 2, 6) and is_int(value[2], 0, value[1] - 1))
        return False

    def move(self, value):
        self.need(tagged(value, "give", 1) and is_int(value[1], 0, 1000)
                  or tagged(value, "move", 1) and is_int(value[1], -5, 5))


def checked(value):
    """Tell whether a value is a program."""
    if type(value) is not tuple or not 1 <= len(value) <= 8:
        return False
    for function in value:
        if type(function) is not tuple or len(function) != 3:
            return False
        if not plain_name(function[0]) or not is_int(function[1], 0, 4):
            return False
    checker = Checker({function[0]: function[1] for function in value})
    if len(checker.arities) < len(value):
        return False
    try:
        for function in value:
            checker.expression(function[2], function[1])
    except Wrong:
        return False
    return True


def has_plain_name(value):
    """Tell whether a value is a plain name."""
    if type(value) is not str:
        return False
    written = re.fullmatch("([a-z]+)_(0|[1-9][0-9]{0,7})", value, re.ASCII)
    return written is not None and not value.endswith("\n") and plain_name(written[1]) and int(written[2]) <= 10000000


class PlainChecker(Checker):
    """A second way to tell what a plain program is."""

    def enter(self, depth):
        self.many += 1
        self.need(depth <= 30)

    def expression(self, value, lates, depth=1):
        self.enter(depth)
        if tagged(value, "number", 1):
            return self.need(is_int(value[1], 0, 10 ** 30))
        if tagged(value, "late", 1):
            return self.need(is_int(value[1], 0, 3) and value[1] < lates)
        if tagged(value, "if", 3):
            self.enter(depth + 1)
            self.need(tagged(value[1], "less", 2))
            for part, below in zip(value[1][1:] + value[2:], (2, 2, 1, 1)):
                self.expression(part, lates, depth + below)
            return None
        parts = value[1:] if any(tagged(value, tag, 2) for tag in ("plus", "minus", "times")) else None
        if parts is None:
            self.need(tagged(value, "call", 2) and has_plain_name(value[1]) and value[1] in self.arities)
            parts = value[2]
            self.need(type(parts) is tuple and len(parts) == self.arities[value[1]])
        for part in parts:
            self.expression(part, lates, depth + 1)
        return None


def checked_plain(value):
    """Tell whether a value is a plain program."""
    if type(value) is not tuple or not 1 <= len(value) <= 300:
        return False
    for function in value:
        if type(function) is not tuple or len(function) != 3:
            return False
        if not has_plain_name(function[0]) or not is_int(function[1], 0, 4):
            return False
    checker = PlainChecker({function[0]: function[1] for function in value})
    try:
        checker.need(len(checker.arities) == len(value))
        for function in value:
            checker.expression(function[2], function[1])
    except Wrong:
        return False
    return True
