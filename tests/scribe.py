"""A second way to write programs, and one to read them by trying all ways to read each part."""

import re

from tests.checker import checked, checked_plain

SIGNS = {"plus": "+", "minus": "-", "times": "*"}


def write(functions):
    """Return the text of a program or of a plain program."""
    return "; ".join(f"{name}({inside(function_is_plain(name), 'e', list('abcd')[:lates])}) = {text_of(body)}"
                     for name, lates, body in functions)


def function_is_plain(name):
    return "_" in name


def inside(plain, early, lates):
    late = ", ".join(lates)
    if plain:
        return late
    return f"{early} | {late}" if late else early


def text_of(node):
    word, *parts = node
    if word == "call":
        name, move, lates = parts[0], ("move", 0) if len(parts) == 2 else parts[1], parts[-1]
        early = {True: str(move[1]), False: ("e - " if move[1] < 0 else "e + ") + str(abs(move[1]))}[move[0] == "give"]
        return f"{name}({inside(function_is_plain(name), early.replace('e + 0', 'e'), list(map(text_of, lates)))})"
    if word == "if":
        return "(if " + text_of(parts[0]) + " then " + text_of(parts[1]) + " else " + text_of(parts[2]) + ")"
    if word in SIGNS:
        return "(" + text_of(parts[0]) + " " + SIGNS[word] + " " + text_of(parts[1]) + ")"
    if word == "less":
        return text_of(parts[0]) + " < " + text_of(parts[1])
    return {"number": "{}", "early": "e", "below": "e < {}", "rest": "e mod {} = {}"}.get(word, "").format(*parts) or (
        "abcd"[parts[0]])


def split(text):
    """Return the words, numbers and marks of a text, None if it has other signs."""
    if re.fullmatch("[ a-z0-9_()|,=<+*;-]*", text) is None or "\n" in text:
        return None
    return re.findall("[a-z0-9_]+|[^ ]", text)


class Scribe:
    """Reads parts: each way to read something is a list of pairs of what it is and the place behind it."""

    def __init__(self, parts, plain):
        self.parts = parts
        self.plain = plain

    def mark(self, at, *wanted):
        return [(None, at + len(wanted))] if self.parts[at:at + len(wanted)] == list(wanted) else []

    def number(self, at):
        part = self.parts[at] if at < len(self.parts) else ""
        return [(int(part), at + 1)] if re.fullmatch("0|[1-9][0-9]{0,40}", part) else []

    def row(self, at, steps):
        """Return the ways to read what steps read one after another, as lists without marks."""
        found = [([], at)]
        for step in steps:
            found = [(row + ([] if one is None else [one]), after) for row, before in found
                     for one, after in (self.mark(before, step) if type(step) is str else step(before))]
        return found

    def expressions(self, at):
        found = [([one], after) for one, after in self.expression(at)]
        return found + [([one] + more, end) for (one,), after in [pair for pair in found if len(pair[0]) == 1]
                        for _, comma in self.mark(after, ",") for more, end in self.expressions(comma)]

    def move(self, at):
        found = [(("give", number), after) for number, after in self.number(at)]
        for sign, factor in (("+", 1), ("-", -1)):
            found += [(("move", factor * row[0]), after) for row, after in self.row(at,
                ["e", sign, self.number]) if row[0]]
        return found + [(("move", 0), after) for _, after in self.mark(at, "e")]

    def call(self, at):
        name = self.parts[at] if at < len(self.parts) else ""
        heads = [((), at + 1)] if self.plain else [((move,), after) for _, open_ in self.mark(at + 1, "(")
                                                  for move, after in self.move(open_)]
        found = []
        for head, after in heads:
            opening = "(" if self.plain else "|"
            found += [(("call", name, *head, tuple(row[0])), end)
                      for row, end in self.row(after, [opening, self.expressions, ")"])]
            found += [(("call", name, *head, ()), end)
                      for _, end in (self.mark(after, "(", ")") if self.plain else self.mark(after, ")"))]
        return found

    def test(self, at):
        found = []
        if not self.plain:
            found += [(("below", *row), end) for row, end in self.row(at, ["e", "<", self.number])]
            found += [(("rest", *row), end) for row, end in self.row(at, ["e", "mod", self.number, "=", self.number])]
        return found + [(("less", *row), end) for row, end in self.row(at, [self.expression, "<", self.expression])
                        if self.plain or row != [("early",), row[1]] or row[1][0] != "number"]

    def expression(self, at):
        part = self.parts[at] if at < len(self.parts) else ""
        found = [(("number", number), after) for number, after in self.number(at)]
        if part == "e" and not self.plain:
            found.append((("early",), at + 1))
        if re.fullmatch("[a-d]", part):
            found.append((("late", "abcd".index(part)), at + 1))
        if part == "(":
            for word, sign in SIGNS.items():
                found += [((word, *row), end) for row, end in self.row(at,
                    ["(", self.expression, sign, self.expression, ")"])]
            found += [(("if", *row), end) for row, end in self.row(at, [
                "(", "if", self.test, "then", self.expression, "else", self.expression, ")"])]
        elif part:
            found += self.call(at)
        return found

    def functions(self, at):
        name = self.parts[at] if at < len(self.parts) else ""
        found = []
        for lates in range(5):
            letters = [part for letter in "abcd"[:lates] for part in (",", letter)][1:]
            early = [] if self.plain else ["e", "|"] if lates else ["e"]
            for _, head in self.mark(at + 1, "(", *early, *letters, ")", "="):
                found += [([(name, lates, body)], end) for body, end in self.expression(head)]
        return found + [(one + more, end) for one, after in list(found) for _, begun in self.mark(after, ";")
                        for more, end in self.functions(begun)]


def read(text, plain):
    """Return the program, or the plain program, that a short text names, None if it names none."""
    parts = split(text)
    if parts is None:
        return None
    found = [tuple(functions) for functions, end in Scribe(parts, plain).functions(0) if end == len(parts)]
    assert len(found) < 2, text
    return found[0] if found and (checked_plain if plain else checked)(found[0]) else None
