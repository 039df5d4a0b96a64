"""Programs: which values are programs, and what stands in them."""

from staged.errors import BadExpression, BadName, BadProgram
from staged.values import MOST_NUMBER, OPERATIONS, is_integer

MOST_FUNCTIONS = 8
MOST_LATES = 4
MOST_NODES = 300
MOST_DEPTH = 30
MOST_LETTERS = 8
BARRED_NAMES = ("if", "then", "else", "mod", "a", "b", "c", "d", "e")
WORDS_OF_PARTS = ("plus", "minus", "times", "if", "less")


def is_name(value):
    """Tell whether a value is a name."""
    if not isinstance(value, str) or not 1 <= len(value) <= MOST_LETTERS:
        return False
    return value not in BARRED_NAMES and all("a" <= letter <= "z" for letter in value)


def inner_nodes(node):
    """Return the tests and expressions right within an expression or a test, in the order of the text."""
    if node[0] == "call":
        # The calls of plain expressions have no move, but their late expressions stand last, too.
        return node[-1]
    if node[0] in WORDS_OF_PARTS:
        return node[1:]
    return ()


def with_inner(node, parts):
    """Return an expression or a test with these parts in the places of those that inner_nodes returns."""
    if node[0] == "call":
        return (*node[:-1], tuple(parts))
    if node[0] in WORDS_OF_PARTS:
        return (node[0], *parts)
    return node


def nodes(expression):
    """Return the list of an expression and all tests and expressions in it, in the order of the text."""
    found = []
    waiting = [expression]
    while waiting:
        node = waiting.pop()
        found.append(node)
        waiting.extend(inner_nodes(node)[::-1])
    return found


def has_no_late_part(expression):
    """Tell whether an expression has neither a late number nor a call."""
    return all(node[0] not in ("late", "call") for node in nodes(expression))


def early_test_holds(test, early):
    """Tell whether a below or a rest holds for an early number."""
    if test[0] == "below":
        return early < test[1]
    return early % test[1] == test[2]


def moved(early, move):
    """Return the early number to which a move leads."""
    if move[0] == "give":
        return move[1]
    return max(early + move[1], 0)


def is_early_step(move):
    """Tell whether a call with this move makes an early step."""
    return move[0] == "move" and move[1] != 0


def branch_taken(expression, early):
    """Return the branch that an if with a test of the early number takes."""
    _, test, one, other = expression
    if early_test_holds(test, early):
        return one
    return other


def _is_move(value):
    """Tell whether a value is a move."""
    # A pattern takes lists, too, so each match here asks for a tuple first.
    if not isinstance(value, tuple):
        return False
    match value:
        case ("give", number):
            return is_integer(number, 0, 1000)
        case ("move", number):
            return is_integer(number, -5, 5)
    return False


def is_callable(name, handed, arities):
    """Tell whether a call may have this name and hand on these."""
    return isinstance(name, str) and isinstance(handed, tuple) and arities.get(name) == len(handed)


def _is_callable_anywhere(name, handed):
    """Tell whether a call of some program may have this name and hand on these."""
    return is_name(name) and isinstance(handed, tuple) and len(handed) <= MOST_LATES


def _is_test_node(value):
    """Tell whether a value is a test, whatever its parts are."""
    if not isinstance(value, tuple):
        return False
    match value:
        case ("below", number):
            return is_integer(number, 0, 1000)
        case ("rest", number, rest):
            return is_integer(number, 2, 6) and is_integer(rest, 0, number - 1)
        case ("less", _, _):
            return True
    return False


def is_shared_node(value, lates, most):
    """Tell whether a value is such an expression as programs and plain programs have both, whatever its parts are."""
    if not isinstance(value, tuple):
        return False
    match value:
        case ("number", number):
            return is_integer(number, 0, most)
        case ("late", number):
            return is_integer(number, 0, lates - 1)
        case (word, _, _) if word in OPERATIONS:
            return True
        case ("if", _, _, _):
            return True
    return False


def _is_expression_node(value, lates, arities):
    """Tell whether a value is an expression, whatever its parts are; arities is None where calls may have any name."""
    if not isinstance(value, tuple):
        return False
    match value:
        case ("early",):
            return True
        case ("call", name, move, handed) if arities is None:
            return _is_callable_anywhere(name, handed) and _is_move(move)
        case ("call", name, move, handed):
            return is_callable(name, handed, arities) and _is_move(move)
    return is_shared_node(value, lates, MOST_NUMBER)


def count_nodes(value, fits, most):
    """Return the number of nodes of an expression, 0 for a value that is none or has more than most.

    fits(node, as_test) tells whether a node is an expression, or a test, whatever its parts are.
    """
    many = 0
    waiting = [(value, False, 1)]
    while waiting:
        node, as_test, depth = waiting.pop()
        many += 1
        # Tuples may share their parts, so that a small value can have more nodes than could ever be walked.
        if depth > MOST_DEPTH or (most is not None and many > most) or not fits(node, as_test):
            return 0
        for at, part in enumerate(inner_nodes(node)):
            waiting.append((part, node[0] == "if" and at == 0, depth + 1))
    return many


def _count_program_nodes(value, lates, arities, most):
    """Return the number of nodes of an expression of a program, 0 for a value that is none or has more than most.

    The test of a less (that it is not of two early ones) is left to _has_early_less.
    """
    def fits(node, as_test):
        return _is_test_node(node) if as_test else _is_expression_node(node, lates, arities)

    return count_nodes(value, fits, most)


def _has_early_less(expression):
    """Tell whether a less of two early expressions stands in an expression."""
    tests = [node for node in nodes(expression) if node[0] == "less"]
    return any(has_no_late_part(one) and has_no_late_part(other) for _, one, other in tests)


def _is_head(value, is_title):
    """Tell whether a value is a function, whatever its body is."""
    if not isinstance(value, tuple) or len(value) != 3:
        return False
    return is_title(value[0]) and is_integer(value[1], 0, MOST_LATES)


def find_arities(value, most, is_title):
    """Return a dict from the names of functions to their numbers of late ones.

    None if the value is no tuple of 1 to most functions with names that are titles and unlike.
    """
    if not isinstance(value, tuple) or not 1 <= len(value) <= most:
        return None
    arities = {}
    for function in value:
        if not _is_head(function, is_title) or function[0] in arities:
            return None
        arities[function[0]] = function[1]
    return arities


def is_program(value):
    """Tell whether a value is a program."""
    arities = find_arities(value, MOST_FUNCTIONS, is_name)
    if arities is None:
        return False
    left = MOST_NODES
    for _, lates, body in value:
        many = _count_program_nodes(body, lates, arities, left)
        if many == 0 or _has_early_less(body):
            return False
        left -= many
    return True


def check_program(value):
    """Raise BadProgram for a value that is no program."""
    if not is_program(value):
        raise BadProgram("not a program")


def find_function(program, name):
    """Return the function of a program that has this name, or raise BadName."""
    for function in program:
        if function[0] == name:
            return function
    raise BadName("not the name of a function of the program")


def functions(program):
    """Return the tuple of the names of a program's functions, in order."""
    check_program(program)
    return tuple([name for name, _, _ in program])


def node_count(program):
    """Return the number of expressions and tests in all bodies of a program."""
    check_program(program)
    return sum([len(nodes(body)) for _, _, body in program])


def calls(program, name):
    """Return the tuple of the calls in a function's body, in the order of the text."""
    check_program(program)
    _, _, body = find_function(program, name)
    return tuple([node for node in nodes(body) if node[0] == "call"])


def is_early(expression):
    """Tell whether an expression of any program is without a late number and a call."""
    if _count_program_nodes(expression, MOST_LATES, None, None) == 0 or _has_early_less(expression):
        raise BadExpression("not an expression of a program")
    return has_no_late_part(expression)
