"""The small machine: runs of code, and the heights of its stack, by which code is sound."""

from staged.codes import check_code, entry_ends, numbers_taken
from staged.errors import Stuck, Unsound
from staged.values import check_fuel, check_lates, operate


class Machine:
    """A run of code on its way."""

    def __init__(self, code, lates):
        self.entries, self.instructions = code
        self.at = 0
        self.lates = lates
        self.stack = []
        # Of the frames below the last one: the address to go back to, and the late numbers that are theirs again then.
        self.frames = []
        self.made = 0
        self.most_frames = 1
        self.most_numbers = 0
        self.ended = False


def _do_push(machine, instruction):
    """Put a number on the stack."""
    machine.stack.append(instruction[1])
    machine.at += 1


def _do_arg(machine, instruction):
    """Put a late number on the stack."""
    if instruction[1] >= len(machine.lates):
        raise Stuck(machine.at)
    machine.stack.append(machine.lates[instruction[1]])
    machine.at += 1


def _do_operation(machine, instruction):
    """Put the value of the two upper numbers in their place."""
    other = machine.stack.pop()
    machine.stack[-1] = operate(instruction[0], machine.stack[-1], other)
    machine.at += 1


def _do_less(machine, _):
    """Put 1 in the place of the two upper numbers if the lower one is less, otherwise 0."""
    other = machine.stack.pop()
    machine.stack[-1] = 1 if machine.stack[-1] < other else 0
    machine.at += 1


def _do_jump(machine, instruction):
    """Go on at an address."""
    machine.at = instruction[1]


def _do_zero(machine, instruction):
    """Go on at an address if the upper number is 0."""
    if machine.stack.pop() == 0:
        machine.at = instruction[1]
    else:
        machine.at += 1


def _take_lates(machine, instruction):
    """Take the late numbers of a function from the stack and begin it."""
    address, many = machine.entries[instruction[1]]
    stack = machine.stack
    below = len(stack) - many
    machine.lates = tuple(stack[below:])
    del stack[below:]
    machine.at = address


def _do_call(machine, instruction):
    """Begin a function in a frame of its own."""
    machine.frames.append((machine.at + 1, machine.lates))
    _take_lates(machine, instruction)


def _do_back(machine, _):
    """Go back behind the call of the last frame, or end the run."""
    if machine.frames:
        machine.at, machine.lates = machine.frames.pop()
    elif len(machine.stack) == 1:
        machine.ended = True
    else:
        raise Stuck(machine.at)


ACTIONS = {
    "push": _do_push,
    "arg": _do_arg,
    "plus": _do_operation,
    "minus": _do_operation,
    "times": _do_operation,
    "less": _do_less,
    "jump": _do_jump,
    "zero": _do_zero,
    "call": _do_call,
    "tail": _take_lates,
    "back": _do_back,
}


def _step(machine):
    """Make the next instruction, or raise Stuck."""
    if machine.at >= len(machine.instructions):
        raise Stuck(machine.at)
    instruction = machine.instructions[machine.at]
    if len(machine.stack) < numbers_taken(instruction, machine.entries):
        raise Stuck(machine.at)
    action = ACTIONS[instruction[0]]
    action(machine, instruction)
    machine.made += 1
    machine.most_frames = max(machine.most_frames, len(machine.frames) + 1)
    machine.most_numbers = max(machine.most_numbers, len(machine.stack))


def machine_run(code, lates, fuel):
    """Return the value, the instructions made, the most frames and the most numbers of a run, None without fuel."""
    check_code(code)
    check_lates(lates, code[0][0][1])
    check_fuel(fuel)
    machine = Machine(code, lates)
    while not machine.ended:
        # Being stuck counts as an instruction, wherever it comes: without the fuel for it there is no answer.
        if machine.made == fuel:
            return None
        _step(machine)
    return machine.stack[0], machine.made, machine.most_frames, machine.most_numbers


def _ways_on(code, at, height, lates):
    """Return the pairs of an address and a height to which the instruction at an address may go on.

    Raise Unsound where it finds too few numbers, no such late number, or not as many numbers as it must.
    """
    entries, instructions = code
    instruction = instructions[at]
    word = instruction[0]
    left = height - numbers_taken(instruction, entries)
    if left < 0 or (word == "arg" and instruction[1] >= lates):
        raise Unsound(f"too few numbers at {at}")
    if word in ("back", "tail"):
        if left != (1 if word == "back" else 0):
            raise Unsound(f"too many numbers or none at {at}")
        return []
    if word == "jump":
        return [(instruction[1], left)]
    if word == "zero":
        return [(instruction[1], left), (at + 1, left)]
    return [(at + 1, left + 1)]


def _follow(code, entry, end, found):
    """Put the heights of a function's instructions into a list that holds None for those not come to yet."""
    start, lates = entry
    waiting = [(start, 0)]
    while waiting:
        at, height = waiting.pop()
        if not start <= at < end:
            raise Unsound(f"{at} is beyond the function's instructions")
        if found[at] is None:
            found[at] = height
            waiting.extend(_ways_on(code, at, height, lates))
        elif found[at] != height:
            raise Unsound(f"two ways to {at} with unlike heights")


def _find_heights(code):
    """Return the list of the heights at which instructions are come to, None for those never come to."""
    check_code(code)
    found = [None] * len(code[1])
    for entry, end in zip(code[0], entry_ends(code)):
        _follow(code, entry, end, found)
    return found


def heights(code):
    """Return the tuple of the heights at which instructions are come to, None for those never come to."""
    return tuple(_find_heights(code))


def deepest(code):
    """Return the greatest number of numbers that a function holds on the stack at once, of its own."""
    # Whatever an instruction puts on the stack is there when the next one is come to.
    return max([height for height in _find_heights(code) if height is not None])
