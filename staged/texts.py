"""Texts of programs and of plain programs."""

from staged.plains import check_plain
from staged.programs import check_program, inner_nodes

LETTERS = ("a", "b", "c", "d")
SIGNS = {"plus": " + ", "minus": " - ", "times": " * ", "less": " < "}


def _move_text(move):
    """Return the text of a move."""
    word, number = move
    if word == "give":
        return str(number)
    if number > 0:
        return f"e + {number}"
    if number < 0:
        return f"e - {-number}"
    return "e"


def _with_lates(name, early, lates):
    """Return a name with parentheses, in which a list of one early text or none stands ahead of one of late texts."""
    inside = " | ".join(early + [", ".join(lates)]) if lates else "".join(early)
    return f"{name}({inside})"


def _text(node):
    """Return the text of an expression or a test."""
    word = node[0]
    if word == "number":
        return str(node[1])
    if word == "early":
        return "e"
    if word == "late":
        return LETTERS[node[1]]
    if word == "below":
        return f"e < {node[1]}"
    if word == "rest":
        return f"e mod {node[1]} = {node[2]}"
    parts = [_text(part) for part in inner_nodes(node)]
    if word == "call":
        return _with_lates(node[1], [_move_text(move) for move in node[2:-1]], parts)
    if word == "if":
        return f"(if {parts[0]} then {parts[1]} else {parts[2]})"
    joined = SIGNS[word].join(parts)
    return joined if word == "less" else f"({joined})"


def _function_text(function, early):
    """Return the text of a function; early is what stands in its parentheses ahead of its late numbers, in a list."""
    name, lates, body = function
    head = _with_lates(name, early, list(LETTERS[:lates]))
    return f"{head} = {_text(body)}"


def write_program(program):
    """Return the text of a program."""
    check_program(program)
    return "; ".join([_function_text(function, ["e"]) for function in program])


def write_plain(plain):
    """Return the text of a plain program."""
    check_plain(plain)
    return "; ".join([_function_text(function, []) for function in plain])
