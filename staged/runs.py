"""Runs of programs, with their early and late steps.

The bodies are written as lists of instructions first, which a stack of numbers and a stack of frames carry out:
a run may go far deeper into calls than Python's own calls may.
"""

from staged.programs import check_program, early_test_holds, find_function, has_no_late_part, is_early_step, moved
from staged.values import OPERATIONS, check_early, check_fuel, check_lates, operate

NO_MOVE = ("move", 0)


class Play:
    """A run on its way: where it is, the numbers worked out, and the steps made so far."""

    def __init__(self, codes, name, early, lates):
        self.codes = codes
        self.code = codes[name]
        self.at = 0
        self.early = early
        self.lates = lates
        self.stack = []
        self.frames = []
        self.early_steps = 0
        self.late_steps = 0
        self.ended = False


def _write_if(expression, code, is_early_part):
    """Append the instructions of an if."""
    _, test, one, other = expression
    if test[0] == "less":
        _write(test[1], code, is_early_part)
        _write(test[2], code, is_early_part)
    at_test = len(code)
    code.append(None)
    _write(one, code, is_early_part)
    at_jump = len(code)
    code.append(None)
    # Only now is it known where the second branch begins and ends.
    code[at_test] = ("unless", test, len(code))
    _write(other, code, is_early_part)
    code[at_jump] = ("jump", len(code))


def _write(expression, code, is_early_part):
    """Append the instructions that put the value of an expression on the stack."""
    word = expression[0]
    if word == "if":
        _write_if(expression, code, is_early_part)
    elif word == "call":
        handed = expression[-1]
        for late in handed:
            _write(late, code, is_early_part)
        # The call of a plain expression has no move.
        move = expression[2] if len(expression) == 4 else NO_MOVE
        code.append(("call", expression[1], move, len(handed)))
    elif word in OPERATIONS:
        _write(expression[1], code, is_early_part)
        _write(expression[2], code, is_early_part)
        code.append((word, is_early_part(expression)))
    else:
        code.append(expression)


def written(body, is_early_part):
    """Return the instructions of a function's body, which may be a plain one.

    is_early_part(expression) tells whether a plus, minus or times is an early step.
    """
    code = []
    _write(body, code, is_early_part)
    code.append(("back",))
    return code


def _do_number(play, instruction):
    """Put a number on the stack."""
    play.stack.append(instruction[1])


def _do_early(play, _):
    """Put the early number on the stack."""
    play.stack.append(play.early)


def _do_late(play, instruction):
    """Put a late number on the stack."""
    play.stack.append(play.lates[instruction[1]])


def _do_operation(play, instruction):
    """Put the value of the two upper numbers in their place."""
    word, counts_early = instruction
    other = play.stack.pop()
    play.stack[-1] = operate(word, play.stack[-1], other)
    if counts_early:
        play.early_steps += 1
    else:
        play.late_steps += 1


def _do_unless(play, instruction):
    """Go to an address if a test does not hold."""
    _, test, address = instruction
    if test[0] == "less":
        other = play.stack.pop()
        holds = play.stack.pop() < other
        play.late_steps += 1
    else:
        holds = early_test_holds(test, play.early)
        play.early_steps += 1
    if not holds:
        play.at = address


def _do_jump(play, instruction):
    """Go to an address."""
    play.at = instruction[1]


def _do_call(play, instruction):
    """Begin the body of a function with the late numbers on the stack."""
    _, name, move, many = instruction
    play.late_steps += 1
    if is_early_step(move):
        play.early_steps += 1
    play.frames.append((play.code, play.at, play.early, play.lates))
    stack = play.stack
    below = len(stack) - many
    play.lates = stack[below:]
    del stack[below:]
    play.early = moved(play.early, move)
    play.code = play.codes[name]
    play.at = 0


def _do_back(play, _):
    """Go back behind the call of the function that is done, or end the run."""
    if play.frames:
        play.code, play.at, play.early, play.lates = play.frames.pop()
    else:
        play.ended = True


ACTIONS = {
    "number": _do_number,
    "early": _do_early,
    "late": _do_late,
    "plus": _do_operation,
    "minus": _do_operation,
    "times": _do_operation,
    "unless": _do_unless,
    "jump": _do_jump,
    "call": _do_call,
    "back": _do_back,
}


def finish(play, fuel):
    """Go on to the end of a run; tell whether the fuel sufficed."""
    while not play.ended and play.late_steps <= fuel:
        instruction = play.code[play.at]
        play.at += 1
        action = ACTIONS[instruction[0]]
        action(play, instruction)
    return play.late_steps <= fuel


def run(program, name, early, lates, fuel):
    """Return the value, the early steps and the late steps of a run, None if it needs more fuel."""
    check_program(program)
    _, many, _ = find_function(program, name)
    check_early(early)
    check_lates(lates, many)
    check_fuel(fuel)
    codes = {title: written(body, has_no_late_part) for title, _, body in program}
    play = Play(codes, name, early, lates)
    if not finish(play, fuel):
        return None
    return play.stack[0], play.early_steps, play.late_steps
