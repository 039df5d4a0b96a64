"""Code of a small machine: what it is, the code of a plain program, and the plain program of a code."""

from staged.errors import BadCode, TooMany
from staged.plains import MOST_PLAIN_FUNCTIONS, check_plain, is_plain
from staged.programs import MOST_DEPTH, MOST_LATES
from staged.values import MOST_VALUE, OPERATIONS, is_integer

MOST_INSTRUCTIONS = 100000


def _is_entry(value, addresses):
    """Tell whether a value is an address of one of so many instructions, with a number of late numbers."""
    if not isinstance(value, tuple) or len(value) != 2:
        return False
    return is_integer(value[0], 0, addresses - 1) and is_integer(value[1], 0, MOST_LATES)


def _are_entries(value, addresses):
    """Tell whether a value is a tuple of entries."""
    if not isinstance(value, tuple) or not 1 <= len(value) <= MOST_PLAIN_FUNCTIONS:
        return False
    if not all(_is_entry(entry, addresses) for entry in value) or value[0][0] != 0:
        return False
    return all(one[0] < other[0] for one, other in zip(value, value[1:]))


def _is_instruction(value, entries, addresses):
    """Tell whether a value is an instruction of a code with so many entries and addresses."""
    # A pattern takes lists, too.
    if not isinstance(value, tuple):
        return False
    match value:
        case ("push", number):
            return is_integer(number, 0, MOST_VALUE)
        case ("arg", number):
            return is_integer(number, 0, MOST_LATES - 1)
        case ("jump" | "zero", number):
            return is_integer(number, 0, addresses - 1)
        case ("call" | "tail", number):
            return is_integer(number, 0, entries - 1)
        case ("plus" | "minus" | "times" | "less" | "back",):
            return True
    return False


def check_code(value):
    """Raise BadCode for a value that is no code."""
    if not isinstance(value, tuple) or len(value) != 2:
        raise BadCode(None)
    entries, instructions = value
    if not isinstance(instructions, tuple) or not 1 <= len(instructions) <= MOST_INSTRUCTIONS:
        raise BadCode(None)
    if not _are_entries(entries, len(instructions)):
        raise BadCode(None)
    for index, instruction in enumerate(instructions):
        if not _is_instruction(instruction, len(entries), len(instructions)):
            raise BadCode(index)


def numbers_taken(instruction, entries):
    """Return how many numbers an instruction takes from the stack; what back leaves there is not taken."""
    word = instruction[0]
    if word in OPERATIONS or word == "less":
        return 2
    if word in ("call", "tail"):
        return entries[instruction[1]][1]
    return 1 if word == "zero" else 0


def entry_ends(code):
    """Return the list of the addresses behind the instructions of each function of a code."""
    entries, instructions = code
    return [address for address, _ in entries[1:]] + [len(instructions)]


def _write_all(expressions, numbers, code):
    """Append the instructions of expressions that do not stand in the last place."""
    for expression in expressions:
        _write(expression, numbers, code)


def _write_test(test, numbers, code):
    """Append the instructions of a test, and return the address of the one that is to go to the second branch."""
    _write_all(test[1:], numbers, code)
    code.append(("less",))
    code.append(None)
    return len(code) - 1


def _write(expression, numbers, code):
    """Append the instructions of an expression that does not stand in the last place.

    The dict numbers holds the index of each function's entry.
    """
    word = expression[0]
    if word == "number":
        code.append(("push", expression[1]))
    elif word == "late":
        code.append(("arg", expression[1]))
    elif word == "call":
        _write_all(expression[2], numbers, code)
        code.append(("call", numbers[expression[1]]))
    elif word == "if":
        _, test, one, other = expression
        at_zero = _write_test(test, numbers, code)
        _write(one, numbers, code)
        at_jump = len(code)
        code.append(None)
        # Only now is it known where the second branch begins and ends.
        code[at_zero] = ("zero", len(code))
        _write(other, numbers, code)
        code[at_jump] = ("jump", len(code))
    else:
        _write_all(expression[1:], numbers, code)
        code.append((word,))


def _write_last(expression, numbers, code):
    """Append the instructions of an expression in the last place."""
    word = expression[0]
    if word == "call":
        _write_all(expression[2], numbers, code)
        code.append(("tail", numbers[expression[1]]))
    elif word == "if":
        _, test, one, other = expression
        at_zero = _write_test(test, numbers, code)
        _write_last(one, numbers, code)
        code[at_zero] = ("zero", len(code))
        _write_last(other, numbers, code)
    else:
        _write(expression, numbers, code)
        code.append(("back",))


def _code_of(plain):
    """Return the code of a plain program, None if it has too many instructions."""
    numbers = {name: index for index, (name, _, _) in enumerate(plain)}
    entries = []
    code = []
    for _, lates, body in plain:
        entries.append((len(code), lates))
        _write_last(body, numbers, code)
        if len(code) > MOST_INSTRUCTIONS:
            return None
    return tuple(entries), tuple(code)


def compiled(plain):
    """Return the code of a plain program."""
    check_plain(plain)
    code = _code_of(plain)
    if code is None:
        raise TooMany(MOST_INSTRUCTIONS)
    return code


def _joined(instruction, parts):
    """Return the expression that an instruction makes of those before it, None if it makes none."""
    word = instruction[0]
    if word == "push":
        return ("number", instruction[1])
    if word == "arg":
        return ("late", instruction[1])
    if word in ("call", "tail"):
        return ("call", f"f_{instruction[1]}", parts)
    if word in OPERATIONS:
        return (word, *parts)
    return None


def _read_if(code, at, end, stack, depth):
    """Put the if whose less is at an address in the place of the expressions of its test; return where it ends."""
    instructions = code[1]
    if len(stack) < 2 or at + 1 >= end or instructions[at + 1][0] != "zero":
        return None
    middle = instructions[at + 1][1]
    if not at + 2 < middle < end:
        return None
    last = instructions[middle - 1]
    if last[0] == "jump":
        one = _read(code, at + 2, middle - 1, depth + 1)
        behind = last[1]
    else:
        # Only in the last place no branch jumps over the other one, and an if there goes on to the end.
        one = _read(code, at + 2, middle, depth + 1)
        behind = end
    other = _read(code, middle, behind, depth + 1) if behind <= end else None
    if one is None or other is None:
        return None
    stack[-2:] = [("if", ("less", *stack[-2:]), one, other)]
    return behind


def _read_next(code, at, end, stack, depth):
    """Do with expressions what the instruction at an address does with numbers; return where to go on."""
    entries, instructions = code
    instruction = instructions[at]
    if instruction[0] == "less":
        return _read_if(code, at, end, stack, depth)
    if instruction[0] == "back":
        return at + 1
    below = len(stack) - numbers_taken(instruction, entries)
    part = _joined(instruction, tuple(stack[below:])) if below >= 0 else None
    if part is None:
        return None
    stack[below:] = [part]
    return at + 1


def _read(code, start, end, depth):
    """Return an expression that instructions may be those of, None if there is none.

    It is not looked at whether back and tail stand where they must: who reads a whole code writes it again.
    """
    stack = []
    at = start if depth <= MOST_DEPTH else None
    while at is not None and at < end:
        at = _read_next(code, at, end, stack, depth)
    return stack[0] if at is not None and len(stack) == 1 else None


def plain_of(code):
    """Return the plain program with functions f_0, f_1, .. whose code is this one, None if there is none."""
    check_code(code)
    plain = []
    for index, (entry, end) in enumerate(zip(code[0], entry_ends(code))):
        address, lates = entry
        body = _read(code, address, end, 1)
        if body is None:
            return None
        plain.append((f"f_{index}", lates, body))
    found = tuple(plain)
    return found if is_plain(found) and _code_of(found) == code else None
