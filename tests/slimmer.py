"""A second way to tell which late numbers play a part: by lots of pairs that grow until nothing more comes in."""


def lates_outside(expression):
    """Return the indexes of late numbers in an expression, or a test, outside the late expressions of calls in it."""
    word, *parts = expression
    if word == "late":
        return {parts[0]}
    if word in ("call", "number"):
        return set()
    return set().union(*map(lates_outside, parts))


def calls_in(expression):
    """Return the calls in an expression, or a test, at any depth."""
    word, *parts = expression
    if word == "call":
        return [expression] + [call for part in parts[1] for call in calls_in(part)]
    if word in ("late", "number"):
        return []
    return [call for part in parts for call in calls_in(part)]


def grown(plain, pairs):
    """Return the least lot with these pairs, and what stands in a late expression that is handed on for one of it."""
    pairs = set(pairs)
    while True:
        more = {(name, late) for name, _, body in plain for call in calls_in(body)
                for at, handed in enumerate(call[2]) if (call[1], at) in pairs for late in lates_outside(handed)}
        if more <= pairs:
            return pairs
        pairs |= more


def needed_pairs(plain):
    return grown(plain, {(name, late) for name, _, body in plain for late in lates_outside(body)})


def needless_pairs(plain):
    """Return the ascending tuple of the needless pairs."""
    every = {(name, late) for name, lates, _ in plain for late in range(lates)}
    return tuple(sorted(every - needed_pairs(plain)))


def slim_plain(plain):
    """Return the plain program without the late numbers that can go."""
    start, many, _ = plain[0]
    calls = [call for _, _, body in plain for call in calls_in(body)]
    stay = grown(plain, needed_pairs(plain) | {(start, late) for late in range(many)} | {
        (call[1], at) for call in calls for at, handed in enumerate(call[2]) if calls_in(handed)})

    def slim(expression, name):
        word, *parts = expression
        if word == "late":
            return ("late", sum((name, late) in stay for late in range(parts[0])))
        if word == "number":
            return expression
        if word == "call":
            return ("call", parts[0], tuple(slim(part, name) for at, part in enumerate(parts[1]) if (parts[0],
                at) in stay))
        return (word, *[slim(part, name) for part in parts])

    return tuple((name, sum((name, late) in stay for late in range(lates)), slim(body, name)) for name, lates,
                 body in plain)


def settled_triples(plain):
    """Return the ascending tuple of the late numbers that all calls hand on as one number or as themselves."""
    reached = {plain[0][0]}
    for _ in plain:
        reached |= {call[1] for name, _, body in plain if name in reached for call in calls_in(body)}
    found = []
    for name, lates, _ in plain[1:]:
        for late in range(lates):
            handed = {str(call[2][late]) for other, _, body in plain if other in reached for call in calls_in(body)
                      if call[1] == name and (other, call[2][late]) != (name, ("late", late))}
            if name in reached and len(handed) == 1 and "'number'" == handed.copy().pop()[1:9]:
                found.append((name, late, int(handed.pop()[11:-1])))
    return tuple(sorted(found))
