"""A second way to write, read, run and measure code of the small machine."""

import functools

MOST = 10 ** 30
OPERATIONS = ("plus", "minus", "times")


def value_code(expression, at, numbers):
    """Return the instructions, from an address on, of an expression that is not in the last place."""
    word, *parts = expression
    if word == "number":
        return [("push", parts[0])]
    if word == "late":
        return [("arg", parts[0])]
    if word == "if":
        test = several(parts[0][1:], at, numbers) + [("less",)]
        one = value_code(parts[1], at + len(test) + 1, numbers)
        middle = at + len(test) + 1 + len(one) + 1
        other = value_code(parts[2], middle, numbers)
        return test + [("zero", middle)] + one + [("jump", middle + len(other))] + other
    if word == "call":
        return several(parts[1], at, numbers) + [("call", numbers[parts[0]])]
    return several(parts, at, numbers) + [(word,)]


def several(expressions, at, numbers):
    found = []
    for expression in expressions:
        found += value_code(expression, at + len(found), numbers)
    return found


def last_code(expression, at, numbers):
    """Return the instructions, from an address on, of an expression in the last place."""
    word, *parts = expression
    if word == "if":
        test = several(parts[0][1:], at, numbers) + [("less",)]
        one = last_code(parts[1], at + len(test) + 1, numbers)
        middle = at + len(test) + 1 + len(one)
        return test + [("zero", middle)] + one + last_code(parts[2], middle, numbers)
    if word == "call":
        return several(parts[1], at, numbers) + [("tail", numbers[parts[0]])]
    return value_code(expression, at, numbers) + [("back",)]


def code_of(plain):
    """Return the code of a plain program."""
    numbers = {function[0]: at for at, function in enumerate(plain)}
    entries, instructions = [], []
    for _, lates, body in plain:
        entries.append((len(instructions), lates))
        instructions += last_code(body, len(instructions), numbers)
    return tuple(entries), tuple(instructions)


class Reader:
    """Finds all expressions whose code stands between two addresses, for short codes."""

    def __init__(self, code):
        self.entries, self.instructions = code
        self.values = functools.lru_cache(maxsize=None)(self.find_values)
        self.rows = functools.lru_cache(maxsize=None)(self.find_rows)

    def find_rows(self, start, end, many):
        """Return the rows of so many expressions, one after another."""
        if many == 0:
            return [()] if start == end else []
        return [row + (value,) for middle in range(start, end) for row in self.rows(start, middle, many - 1)
                for value in self.values(middle, end)]

    def find_values(self, start, end):
        if end <= start:
            return []
        word, *parts = self.instructions[end - 1]
        found = []
        if word == "push" and end == start + 1:
            found.append(("number", parts[0]))
        if word == "arg" and end == start + 1:
            found.append(("late", parts[0]))
        if word in OPERATIONS:
            found += [(word, *row) for row in self.rows(start, end - 1, 2)]
        if word == "call":
            found += [("call", f"f_{parts[0]}", row) for row in self.rows(start, end - 1, self.entries[parts[0]][1])]
        for test, zero, middle in self.tests(start, end):
            if self.instructions[middle - 1] == ("jump", end):
                found += [("if", test, one, other) for one in self.values(zero + 1,
                    middle - 1) for other in self.values(middle, end)]
        return found

    def tests(self, start, end):
        """Yield the tests that code between two addresses may begin with, with the addresses of what follows."""
        for zero in range(start + 1, end):
            if self.instructions[zero][0] == "zero" and self.instructions[zero - 1] == ("less",):
                middle = self.instructions[zero][1]
                if zero < middle < end:
                    for row in self.rows(start, zero - 1, 2):
                        yield ("less", *row), zero, middle

    def last(self, start, end):
        if end <= start:
            return []
        word, *parts = self.instructions[end - 1]
        found = []
        if word == "back":
            found += [value for value in self.values(start, end - 1) if value[0] not in ("if", "call")]
        if word == "tail":
            found += [("call", f"f_{parts[0]}", row) for row in self.rows(start, end - 1, self.entries[parts[0]][1])]
        for test, zero, middle in self.tests(start, end):
            found += [("if", test, one, other) for one in self.last(zero + 1, middle) for other in self.last(middle,
                end)]
        return found


def lates_in(expression):
    if expression[0] == "late":
        return [expression[1]]
    return [late for part in expression[1:] if type(part) is tuple for late in (
        lates_in(part) if part and type(part[0]) is str else [late for one in part for late in lates_in(one)])]


def read_code(code):
    """Return the plain program of a short code, None if there is none."""
    reader = Reader(code)
    ends = [address for address, _ in code[0][1:]] + [len(code[1])]
    plain = []
    for at, ((start, lates), end) in enumerate(zip(code[0], ends)):
        bodies = reader.last(start, end)
        assert len(bodies) < 2
        if not bodies or max(lates_in(bodies[0]), default=-1) >= lates:
            return None
        plain.append((f"f_{at}", lates, bodies[0]))
    return tuple(plain)


class Halt(Exception):
    """A run is stuck at an address."""


def play(code, lates, fuel):
    """Return what a run of code gives, None if it needs more fuel, or ("stuck", address)."""
    entries, instructions = code
    frames, stack, at = [(None, lates)], [], 0
    made, most_frames, most_stack = 0, 1, 0

    def take(many):
        nonlocal stack
        if len(stack) < many:
            raise Halt
        taken, stack = stack[len(stack) - many:], stack[:len(stack) - many]
        return taken

    while made < fuel:
        made += 1
        if at >= len(instructions):
            return ("stuck", at)
        word, *parts = instructions[at]
        try:
            if word == "push":
                stack = stack + [parts[0]]
            elif word == "arg":
                if parts[0] >= len(frames[-1][1]):
                    raise Halt
                stack = stack + [frames[-1][1][parts[0]]]
            elif word in OPERATIONS or word == "less":
                one, other = take(2)
                worth = {"plus": min(one + other, MOST), "minus": max(one - other, 0), "times": min(one * other, MOST),
                         "less": int(one < other)}[word]
                stack = stack + [worth]
            following = at + 1
            if word == "jump" or word == "zero" and take(1) == [0]:
                following = parts[0]
            elif word in ("call", "tail"):
                address, many = entries[parts[0]]
                handed = tuple(take(many))
                back = at + 1 if word == "call" else frames.pop()[0]
                frames.append((back, handed))
                following = address
            elif word == "back":
                following = frames.pop()[0]
                if following is None:
                    if len(stack) != 1:
                        raise Halt
                    return stack[0], made, most_frames, most_stack
        except Halt:
            return ("stuck", at)
        at = following
        most_frames, most_stack = max(most_frames, len(frames)), max(most_stack, len(stack))
    return None


def measure(code):
    """Return the tuple of heights, None where code is unsound."""
    entries, instructions = code
    ends = [address for address, _ in entries[1:]] + [len(instructions)]
    seen = [set() for _ in instructions]
    waiting = [(start, 0, start, end, lates) for (start, lates), end in zip(entries, ends)]
    while waiting:
        at, height, start, end, lates = waiting.pop()
        if at not in range(start, end):
            return None
        if height in seen[at]:
            continue
        seen[at].add(height)
        if len(seen[at]) > 1:
            return None
        word, *parts = instructions[at]
        takes, leaves = {"push": (0, 1), "arg": (0, 1), "jump": (0, 0), "zero": (1, 0), "less": (2, 1),
                         "back": (1, 0)}.get(
            word, (2, 1))
        if word in ("call", "tail"):
            takes, leaves = entries[parts[0]][1], 1 if word == "call" else 0
        if height < takes or word == "arg" and parts[0] >= lates or word in ("back", "tail") and height != takes:
            return None
        if word not in ("back", "tail"):
            ways = {"jump": [parts[0] if parts else None], "zero": [at + 1, parts[0] if parts else None]}.get(word,
                [at + 1])
            waiting += [(way, height - takes + leaves, start, end, lates) for way in ways]
    return tuple(next(iter(found)) if found else None for found in seen)


def is_code(value):
    """Return True for a code, otherwise the index that BadCode must tell, in a tuple."""
    def is_int(number, low, high):
        return type(number) is int and low <= number <= high

    if type(value) is not tuple or len(value) != 2:
        return (None,)
    entries, instructions = value
    if type(entries) is not tuple or type(instructions) is not tuple or not 1 <= len(entries) <= 300:
        return (None,)
    many = len(instructions)
    if not 1 <= many <= 100000:
        return (None,)
    for at, entry in enumerate(entries):
        if type(entry) is not tuple or len(entry) != 2 or not is_int(entry[0], 0, many - 1) or not is_int(entry[1], 0,
            4):
            return (None,)
        if entry[0] <= entries[at - 1][0] if at else entry[0] != 0:
            return (None,)
    bounds = {"push": MOST, "arg": 3, "jump": many - 1, "zero": many - 1, "call": len(entries) - 1,
              "tail": len(entries) - 1}
    for at, one in enumerate(instructions):
        if type(one) is not tuple or not one or type(one[0]) is not str:
            return (at,)
        if one[0] in bounds:
            if len(one) != 2 or not is_int(one[1], 0, bounds[one[0]]):
                return (at,)
        elif one[0] not in OPERATIONS + ("less", "back") or len(one) != 1:
            return (at,)
    return True
