"""Plain programs: programs of late numbers alone, and their runs."""

from staged.errors import BadPlain
from staged.programs import count_nodes, find_arities, is_callable, is_name, is_shared_node, nodes
from staged.runs import Play, finish, written
from staged.values import MOST_POINT, MOST_VALUE, check_fuel, check_lates

MOST_PLAIN_FUNCTIONS = 300


def _is_written_number(text):
    """Tell whether a text is an integer from 0 to 10000000 without a 0 ahead."""
    if not 1 <= len(text) <= len(str(MOST_POINT)) or not all("0" <= digit <= "9" for digit in text):
        return False
    return str(int(text)) == text and int(text) <= MOST_POINT


def is_plain_name(value):
    """Tell whether a value is a plain name."""
    if not isinstance(value, str):
        return False
    name, _, number = value.partition("_")
    return is_name(name) and _is_written_number(number)


def _is_test_node(value):
    """Tell whether a value is a test of a plain expression, whatever its parts are."""
    return isinstance(value, tuple) and len(value) == 3 and value[0] == "less"


def _is_expression_node(value, lates, arities):
    """Tell whether a value is a plain expression, whatever its parts are."""
    if isinstance(value, tuple) and len(value) == 3 and value[0] == "call":
        return is_callable(value[1], value[2], arities)
    return is_shared_node(value, lates, MOST_VALUE)


def _is_body(value, lates, arities):
    """Tell whether a value is a plain expression of a function with this many late numbers."""
    def fits(node, as_test):
        return _is_test_node(node) if as_test else _is_expression_node(node, lates, arities)

    return count_nodes(value, fits, None) > 0


def is_plain(value):
    """Tell whether a value is a plain program."""
    arities = find_arities(value, MOST_PLAIN_FUNCTIONS, is_plain_name)
    if arities is None:
        return False
    return all(_is_body(body, lates, arities) for _, lates, body in value)


def check_plain(value):
    """Raise BadPlain for a value that is no plain program."""
    if not is_plain(value):
        raise BadPlain("not a plain program")


def called_names(body):
    """Return the list of the names that the calls in a plain body have, in the order of the text."""
    return [node[1] for node in nodes(body) if node[0] == "call"]


def _is_early_part(_):
    """Tell that an operation of a plain program is never an early step."""
    return False


def plain_run(plain, lates, fuel):
    """Return the value and the steps of a run of a plain program's start, None if it needs more fuel."""
    check_plain(plain)
    start, many, _ = plain[0]
    check_lates(lates, many)
    check_fuel(fuel)
    codes = {name: written(body, _is_early_part) for name, _, body in plain}
    play = Play(codes, start, 0, lates)
    if not finish(play, fuel):
        return None
    return play.stack[0], play.late_steps
