"""Two rounds: programs in which a late number and the early one have changed places, or becomes the early one."""

from staged.errors import BadIndex, NotLifted, NotSwapped
from staged.plains import check_plain
from staged.programs import MOST_FUNCTIONS, MOST_LATES, check_program, inner_nodes, is_program, nodes, with_inner
from staged.values import is_integer

MOST_GIVEN = 1000
MOST_MOVE = 5
MOST_BELOW = 1000
LETTERS_OF_LIFTED = "abcdefgh"


def _check_index(value):
    """Raise BadIndex for a value that is not the index of a late number."""
    if not is_integer(value, 0, MOST_LATES - 1):
        raise BadIndex("not an integer from 0 to 3")


def _move_of(expression, index):
    """Return the move that hands on what a late expression of this late number does, None if there is none."""
    match expression:
        case ("number", number) if number <= MOST_GIVEN:
            return ("give", number)
        case ("late", late) if late == index:
            return ("move", 0)
        case ("plus", ("late", late), ("number", number)) if late == index and number <= MOST_MOVE:
            return ("move", number)
        case ("minus", ("late", late), ("number", number)) if late == index and number <= MOST_MOVE:
            return ("move", -number)
    return None


def _late_of(move, index):
    """Return the late expression that hands on what a move does, when the early number is late."""
    word, number = move
    if word == "give":
        return ("number", number)
    if number > 0:
        return ("plus", ("late", index), ("number", number))
    if number < 0:
        return ("minus", ("late", index), ("number", -number))
    return ("late", index)


def _turned_late(node, index, names):
    """Return what becomes of a late number."""
    if node[1] == index:
        return ("early",)
    if names is not None and node[1] > index:
        return ("late", node[1] - 1)
    return node


def _with_below(expression, index):
    """Return an if with a test below, if that is what its less of the late number and a number becomes; else None."""
    _, test, one, other = expression
    match test:
        case ("less", ("late", late), ("number", number)) if late == index and number <= MOST_BELOW:
            return ("if", ("below", number), one, other)
        case ("less", ("number", number), ("late", late)) if late == index and number < MOST_BELOW:
            # A number is less than another one where the other is not below the next one.
            return ("if", ("below", number + 1), other, one)
    return None


def _turned_if(expression, index, names):
    """Return what becomes of an if."""
    changed = _with_below(expression, index)
    if changed is None:
        return with_inner(expression, [_turned(part, index, names) for part in inner_nodes(expression)])
    _, test, one, other = changed
    return ("if", test, _turned(one, index, names), _turned(other, index, names))


def _turned_call(expression, index, names):
    """Return what becomes of a call."""
    handed = expression[-1]
    before = [_turned(late, index, names) for late in handed[:index]]
    behind = [_turned(late, index, names) for late in handed[index + 1:]]
    move = _move_of(handed[index], index)
    if names is None:
        return ("call", expression[1], move, (*before, _late_of(expression[2], index), *behind))
    return ("call", names[expression[1]], move, (*before, *behind))


def _turned(node, index, names):
    """Return what becomes of an expression or a test; names holds the new names of plain functions, else it is None."""
    word = node[0]
    if word == "early":
        return ("late", index)
    if word == "below":
        return ("less", ("late", index), ("number", node[1]))
    if word == "late":
        return _turned_late(node, index, names)
    if word == "if":
        return _turned_if(node, index, names)
    if word == "call":
        return _turned_call(node, index, names)
    return with_inner(node, [_turned(part, index, names) for part in inner_nodes(node)])


def _has_moves(body, index):
    """Tell whether all calls in a body hand on at an index what a move can."""
    return all(_move_of(node[-1][index], index) is not None for node in nodes(body) if node[0] == "call")


def _turn_all(functions, index, names):
    """Return the program in which the late number with this index is the early one, None if it cannot be written."""
    if any(lates <= index for _, lates, _ in functions) or not all(_has_moves(body, index) for _, _, body in functions):
        return None
    lost = 0 if names is None else 1
    program = tuple([(name if names is None else names[name], lates - lost, _turned(body, index, names))
                     for name, lates, body in functions])
    # A less of two early expressions is no test, so this finds those, too.
    return program if is_program(program) else None


def swapped(program, index):
    """Return the program in which the late number with this index and the early one have changed places."""
    check_program(program)
    _check_index(index)
    if any(node[0] == "rest" for _, _, body in program for node in nodes(body)):
        raise NotSwapped("there is a test rest")
    answer = _turn_all(program, index, None)
    if answer is None:
        raise NotSwapped("the late number cannot be the early one")
    return answer


def lifted(plain, index):
    """Return the program in which the late number with this index of a plain program's functions is the early one."""
    check_plain(plain)
    _check_index(index)
    if len(plain) > MOST_FUNCTIONS:
        raise NotLifted("more than 8 functions")
    names = {name: f"p{LETTERS_OF_LIFTED[at]}" for at, (name, _, _) in enumerate(plain)}
    answer = _turn_all(plain, index, names)
    if answer is None:
        raise NotLifted("the late number cannot be the early one")
    return answer
