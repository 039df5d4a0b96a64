"""Programs and values that several tests use, and makers of random programs."""

POWER = (
    ("pow", 1, ("if", ("below", 1), ("number", 1),
                ("times", ("late", 0), ("call", "pow", ("move", -1), (("late", 0),))))),
)

FOUR = (
    ("first", 2, ("if", ("less", ("call", "second", ("give", 7), (("early",),)), ("late", 1)),
                  ("plus", ("late", 0), ("call", "third", ("move", 5), ())),
                  ("minus", ("early",), ("number", 4)))),
    ("second", 1, ("if", ("rest", 3, 1), ("late", 0), ("times", ("number", 2), ("late", 0)))),
    ("third", 0, ("if", ("below", 10), ("early",), ("number", 1000000))),
    ("fourth", 4, ("call", "fourth", ("move", -5), (("late", 3), ("late", 2), ("late", 1), ("late", 0)))),
)


def nested(depth):
    """Return a tuple that is nested this deep."""
    value = ()
    for _ in range(depth):
        value = (value,)
    return value


def chain(depth, end=("late", 0)):
    """Return an expression that is nested this deep."""
    for _ in range(depth - 1):
        end = ("plus", end, ("number", 1))
    return end


def doubled(depth, end=("late", 0)):
    """Return an expression that shares its parts: this deep, with 2 to the depth nodes, less one."""
    for _ in range(depth - 1):
        end = ("plus", end, end)
    return end


def of_nodes(many):
    """Return an expression with an odd number of nodes, less than 500."""
    parts = [("late", 0)] * ((many + 1) // 2)
    while len(parts) > 1:
        parts = [("plus", *pair) if len(pair) == 2 else pair[0]
                 for pair in (parts[at:at + 2] for at in range(0, len(parts), 2))]
    return parts[0]


def replacements(value, others):
    """Yield the value with each part of it, at any depth, replaced by each of the others, left out, or doubled."""
    yield from others
    if type(value) is tuple:
        for at, part in enumerate(value):
            yield value[:at] + value[at + 1:]
            yield value[:at] + (part, part) + value[at + 1:]
            for other in replacements(part, others):
                yield value[:at] + (other,) + value[at + 1:]


# A value of each kind, and such values within one another.
VALUES = (
    0, 1, -1, 5, 301, 1000001, 10 ** 30, 10 ** 5000, -(10 ** 5000),
    "", "a", "pow", "if", "number", "early", "x y", "Pow", "ninelette", "\u00e9t\u00e9",
    True, False, None,
    (), (0,), ((),), (True,), (None,), ("early",), ("number", 1), ("number", True), ("pow",), ("pow", 1), ("early", ()),
    ("below", 1), ("give", 1), ("move", 0), (("late", 0),), ([],), ({},), ((0, [{}]),),
    [], [0], ["early"], ["number", 1], [("early",)], [[]], {}, {0: 1}, {"pow": 1}, {"early": ("early",)},
    nested(100), nested(100000), doubled(100000), [nested(100000)], {"pow": nested(100000)},
    ("pow", 1, nested(100000)), (("pow", 1, nested(100000)),), (("pow", 1, doubled(100000)),),
)


def random_expression(rng, depth, lates, arities):
    """Return a random expression, at most this deep."""
    leaves = [("number", rng.choice((0, 1, 2, 3, 7, 1000000))), ("early",)]
    if lates:
        leaves += [("late", rng.randrange(lates))] * 2
    if depth < 3 or rng.random() < 0.2:
        return rng.choice(leaves)

    def inner():
        return random_expression(rng, depth - 1, lates, arities)

    kind = rng.choice(("plus", "minus", "times", "if", "if", "call", "call"))
    if kind == "if":
        return ("if", random_test(rng, depth - 1, lates, arities), inner(), inner())
    if kind == "call":
        name = rng.choice(sorted(arities))
        move = rng.choice((("give", rng.choice((0, 1, 9, 1000))), ("move", rng.randint(-5, 5)), ("move", -1),
                           ("move", 0)))
        return ("call", name, move, tuple(inner() for _ in range(arities[name])))
    return (kind, inner(), inner())


def random_test(rng, depth, lates, arities):
    """Return a random test, at most this deep."""
    kind = rng.choice(("below", "rest", "less"))
    if kind == "below":
        return ("below", rng.choice((0, 1, 2, 5, 1000)))
    if kind == "rest":
        divisor = rng.randint(2, 6)
        return ("rest", divisor, rng.randrange(divisor))
    one, other = (random_expression(rng, depth - 1, lates, arities) for _ in range(2))
    if "late" not in str((one, other)) and "call" not in str((one, other)):
        return ("below", 3)
    return ("less", one, other)


def random_program(rng, depth=5):
    """Return a random program of one to three functions; now and then it has too many nodes."""
    names = ("f", "go", "pow")[:rng.randint(1, 3)]
    arities = {name: rng.randint(0, 3) for name in names}
    return tuple((name, arities[name], random_expression(rng, depth, arities[name], arities)) for name in names)


def random_steps(rng, depth, names):
    """Return a random expression of tests and calls, at most this deep, and without late numbers."""
    if depth < 2:
        return ("number", rng.randint(0, 3))
    kind = rng.choice(("below", "rest", "rest", "less", "plus", "call", "call", "call"))
    if kind == "call":
        move = ("give", rng.randint(0, 9)) if rng.random() < 0.1 else ("move", rng.choice((-3, -2, -1, -1, 0, 1, 2, 5)))
        return ("call", rng.choice(names), move, ())
    one, other = (random_steps(rng, depth - 1, names) for _ in range(2))
    if kind == "plus":
        return ("plus", one, other)
    divisor = rng.randint(2, 6)
    test = {"below": ("below", rng.randint(0, 9)), "rest": ("rest", divisor, rng.randrange(divisor)),
            "less": ("less", ("call", rng.choice(names), ("move", -1), ()), ("number", 3))}[kind]
    return ("if", test, one, other)


def random_walker(rng):
    """Return a random program whose staging meets many points, be they finitely many or not."""
    names = ("f", "go", "pow")[:rng.randint(1, 3)]
    return tuple((name, 0, random_steps(rng, rng.randint(3, 5), names)) for name in names)


def random_plain_expression(rng, depth, lates, arities):
    """Return a random plain expression, at most this deep."""
    leaves = [("number", rng.choice((0, 1, 2, 3, 7, 1000001, 10 ** 30 - 1, 10 ** 30)))]
    if lates:
        leaves += [("late", rng.randrange(lates))] * 2
    if depth < 3 or rng.random() < 0.2:
        return rng.choice(leaves)

    def inner():
        return random_plain_expression(rng, depth - 1, lates, arities)

    kind = rng.choice(("plus", "minus", "times", "if", "if", "call", "call"))
    if kind == "if":
        return ("if", ("less", inner(), inner()), inner(), inner())
    if kind == "call":
        name = rng.choice(sorted(arities))
        return ("call", name, tuple(inner() for _ in range(arities[name])))
    return (kind, inner(), inner())


def random_plain(rng, depth=5):
    """Return a random plain program of one to four functions."""
    names = ("f_0", "f_12", "go_7", "pow_10000000")[:rng.randint(1, 4)]
    arities = {name: rng.randint(0, 4) for name in names}
    return tuple((name, arities[name], random_plain_expression(rng, depth, arities[name], arities)) for name in names)
