"""Programs and plain programs read from texts."""

from staged.errors import InvalidText, NotText
from staged.plains import is_plain
from staged.programs import MOST_DEPTH, is_program
from staged.texts import LETTERS

MARKS = "()|,=<+-*;"
WORDS_OF_SIGNS = {"+": "plus", "-": "minus", "*": "times"}
# The greatest number of any text, 10 to the 30, has as many.
MOST_DIGITS = 31
# Stands for what comes behind a text: no part of a text is a space.
END = " "


class Reader:
    """A text on its way: its words, numbers and marks, and the index of the next one."""

    def __init__(self, parts, of_plain):
        self.parts = parts
        self.of_plain = of_plain
        self.at = 0


def _is_of_word(letter):
    """Tell whether a letter, a digit or another sign stands in words, numbers and plain names."""
    return "a" <= letter <= "z" or "0" <= letter <= "9" or letter == "_"


def _split(text):
    """Return the list of the words, numbers and marks of a text."""
    parts = []
    begun = None
    for at, sign in enumerate(text):
        if _is_of_word(sign):
            begun = at if begun is None else begun
            continue
        if begun is not None:
            parts.append(text[begun:at])
            begun = None
        if sign in MARKS:
            parts.append(sign)
        elif sign != " ":
            raise InvalidText("a sign that stands in no text")
    if begun is not None:
        parts.append(text[begun:])
    return parts


def _next(reader, ahead):
    """Return the next part of a text, or one that is further ahead, without going on."""
    at = reader.at + ahead
    return reader.parts[at] if at < len(reader.parts) else END


def _take(reader):
    """Return the next part of a text and go on behind it."""
    part = _next(reader, 0)
    reader.at += 1
    return part


def _expect(reader, part):
    """Go on behind a part of a text that must be there."""
    if _take(reader) != part:
        raise InvalidText("not what must stand there")


def _takes(reader, part):
    """Go on behind a part of a text if it is there; tell whether it was."""
    if _next(reader, 0) != part:
        return False
    reader.at += 1
    return True


def _is_number(part):
    """Tell whether a part of a text is a number."""
    if len(part) > MOST_DIGITS or not all("0" <= digit <= "9" for digit in part):
        return False
    return part == "0" or part[0] != "0"


def _read_number(reader):
    """Read a number."""
    part = _take(reader)
    if not _is_number(part):
        raise InvalidText("no number")
    return int(part)


def _read_move(reader):
    """Read the move of a call."""
    if not _takes(reader, "e"):
        return ("give", _read_number(reader))
    if _next(reader, 0) not in ("+", "-"):
        return ("move", 0)
    sign = _take(reader)
    number = _read_number(reader)
    if number == 0:
        raise InvalidText("a move by 0 is written as e alone")
    return ("move", number if sign == "+" else -number)


def _read_lates(reader, depth):
    """Read expressions parted by commas."""
    lates = [_read_expression(reader, depth)]
    while _takes(reader, ","):
        lates.append(_read_expression(reader, depth))
    return tuple(lates)


def _read_call(reader, name, depth):
    """Read a call behind its name."""
    _expect(reader, "(")
    lates = ()
    if reader.of_plain:
        if _next(reader, 0) != ")":
            lates = _read_lates(reader, depth + 1)
        call = ("call", name, lates)
    else:
        move = _read_move(reader)
        if _takes(reader, "|"):
            lates = _read_lates(reader, depth + 1)
        call = ("call", name, move, lates)
    _expect(reader, ")")
    return call


def _read_test(reader, depth):
    """Read a test."""
    if not reader.of_plain and _next(reader, 0) == "e":
        if _next(reader, 1) == "mod":
            reader.at += 2
            divisor = _read_number(reader)
            _expect(reader, "=")
            return ("rest", divisor, _read_number(reader))
        if _next(reader, 1) == "<" and _is_number(_next(reader, 2)):
            reader.at += 2
            return ("below", _read_number(reader))
    one = _read_expression(reader, depth + 1)
    _expect(reader, "<")
    return ("less", one, _read_expression(reader, depth + 1))


def _read_inside(reader, depth):
    """Read what stands in the parentheses of an if or of a plus, minus or times."""
    if _takes(reader, "if"):
        test = _read_test(reader, depth + 1)
        _expect(reader, "then")
        one = _read_expression(reader, depth + 1)
        _expect(reader, "else")
        return ("if", test, one, _read_expression(reader, depth + 1))
    one = _read_expression(reader, depth + 1)
    sign = _take(reader)
    if sign not in WORDS_OF_SIGNS:
        raise InvalidText("no plus, minus or times")
    return (WORDS_OF_SIGNS[sign], one, _read_expression(reader, depth + 1))


def _read_expression(reader, depth):
    """Read an expression that stands this deep."""
    # What is nested deeper is none, and the depth of the calls here is bounded, too.
    if depth > MOST_DEPTH:
        raise InvalidText("nested too deep")
    part = _take(reader)
    if part == "(":
        expression = _read_inside(reader, depth)
        _expect(reader, ")")
        return expression
    if _is_number(part):
        return ("number", int(part))
    if part == "e" and not reader.of_plain:
        return ("early",)
    if part in LETTERS:
        return ("late", LETTERS.index(part))
    return _read_call(reader, part, depth)


def _read_letters(reader):
    """Read the letters of a function's late numbers, and return how many there are."""
    many = 0
    for letter in LETTERS:
        _expect(reader, letter)
        many += 1
        if not _takes(reader, ","):
            return many
    raise InvalidText("more late numbers than letters")


def _read_function(reader):
    """Read a function."""
    name = _take(reader)
    _expect(reader, "(")
    lates = 0
    if reader.of_plain:
        if _next(reader, 0) != ")":
            lates = _read_letters(reader)
    else:
        _expect(reader, "e")
        if _takes(reader, "|"):
            lates = _read_letters(reader)
    _expect(reader, ")")
    _expect(reader, "=")
    return (name, lates, _read_expression(reader, 1))


def _read(text, of_plain):
    """Return the tuple of the functions that a text names; whether they make a program is left to be seen."""
    if not isinstance(text, str):
        raise NotText("not a string")
    reader = Reader(_split(text), of_plain)
    functions = [_read_function(reader)]
    while _takes(reader, ";"):
        functions.append(_read_function(reader))
    _expect(reader, END)
    return tuple(functions)


def read_program(text):
    """Return the program that a text names."""
    program = _read(text, False)
    if not is_program(program):
        raise InvalidText("no program")
    return program


def read_plain(text):
    """Return the plain program that a text names."""
    plain = _read(text, True)
    if not is_plain(plain):
        raise InvalidText("no plain program")
    return plain
