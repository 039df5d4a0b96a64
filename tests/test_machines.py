import inspect
import random
import unittest

from staged import machines
from staged.codes import compiled
from staged.errors import BadCode, BadFuel, BadLates, Stuck, Unsound
from staged.machines import deepest, heights, machine_run
from staged.plains import plain_run
from staged.staging import staged
from tests.arguments import Argument, check_arguments, is_good, is_number
from tests.coder import is_code, measure, play
from tests.samples import POWER, chain, nested, random_plain

MOST = 10 ** 30
TWICE = (((0, 1),), (("arg", 0), ("push", 2), ("times",), ("back",)))
ALL = (("push", 1), ("arg", 0), ("plus",), ("minus",), ("times",), ("less",), ("jump", 0), ("zero", 0), ("call", 0),
       ("tail", 0), ("back",))


def single(*instructions, lates=0):
    """Return a code of one function."""
    return (((0, lates),), instructions)


def push(*numbers):
    return tuple(("push", number) for number in numbers)


def value(*instructions, lates=()):
    """Return the value of a run of one function."""
    return machine_run(single(*instructions, lates=len(lates)), lates, 1000)[0]


class MachineRunTest(unittest.TestCase):
    def test_interface(self):
        shapes = {"machine_run": "(code, lates, fuel)", "heights": "(code)", "deepest": "(code)"}
        for name, shape in shapes.items():
            with self.subTest(name):
                self.assertEqual(str(inspect.signature(getattr(machines, name))), shape)
                self.assertEqual(getattr(machines, name).__module__, "staged.machines")

    def stuck(self, address, code, lates=(), fuel=1000):
        with self.assertRaises(Stuck) as caught:
            machine_run(code, lates, fuel)
        self.assertEqual(caught.exception.address, address)

    def test_the_answer_is_a_tuple_of_integers(self):
        answer = machine_run(TWICE, (21,), 9)
        self.assertEqual((answer, type(answer)) + tuple(map(type, answer)), ((42, 4, 1, 2), tuple, int, int, int, int))

    def test_numbers(self):
        for number in (0, 1, MOST):
            self.assertEqual(machine_run(single(("push", number), ("back",)), (), 9), (number, 2, 1, 1))
        for late in range(4):
            self.assertEqual(value(("arg", late), ("back",), lates=(0, 5, 1000000, 7)), (0, 5, 1000000, 7)[late])

    def test_the_upper_number_is_the_second(self):
        for word, expected in (("plus", 10), ("minus", 4), ("times", 21), ("less", 0)):
            self.assertEqual(value(*push(7, 3), (word,), ("back",)), expected)
        for word, expected in (("plus", 10), ("minus", 0), ("times", 21), ("less", 1)):
            self.assertEqual(value(*push(3, 7), (word,), ("back",)), expected)

    def test_values_stay_from_0_to_the_greatest(self):
        for one, other, word, expected in ((MOST, 1, "plus", MOST), (MOST - 1, 1, "plus", MOST),
                                           (MOST - 2, 1, "plus", MOST - 1),
                                           (MOST, MOST, "times", MOST), (10 ** 15, 10 ** 15, "times", MOST),
                                           (MOST, 0, "times", 0),
                                           (10 ** 15 - 1, 10 ** 15 + 1, "times", MOST - 1), (0, MOST, "minus", 0),
                                           (0, 0, "minus", 0),
                                           (5, 5, "minus", 0), (MOST, 1, "minus", MOST - 1), (MOST, MOST, "less", 0),
                                           (MOST - 1, MOST, "less", 1),
                                           (0, 0, "less", 0), (0, 1, "less", 1)):
            with self.subTest(word, one=one, other=other):
                self.assertEqual(value(*push(one, other), (word,), ("back",)), expected)

    def test_jumps(self):
        self.assertEqual(machine_run(single(("jump", 2), ("back",), ("push", 4), ("jump", 1)), (), 9), (4, 4, 1, 1))
        for number, expected in ((0, 8), (1, 7), (MOST, 7)):
            self.assertEqual(value(("push", number), ("zero", 4), ("push", 7), ("back",), ("push", 8), ("back",)),
                             expected)

    def test_calls_take_their_numbers_in_order(self):
        digits = (("arg", 0), ("push", 10), ("times",), ("arg", 1), ("plus",), ("push", 10), ("times",), ("arg", 2),
                  ("plus",), ("back",))
        code = (((0, 0), (7, 3)), push(5, 1, 2, 3) + (("call", 1), ("plus",), ("back",)) + digits)
        self.assertEqual(machine_run(code, (), 99), (128, 17, 2, 4))
        code = (((0, 0), (4, 3)), push(1, 2, 3) + (("tail", 1),) + digits)
        self.assertEqual(machine_run(code, (), 99), (123, 14, 1, 3))

    def test_late_numbers_are_the_last_frame_s(self):
        code = (((0, 2), (5, 1)), (("arg", 1), ("call", 1), ("arg", 1), ("minus",), ("back",), ("arg", 0), ("arg", 0),
                                   ("times",), ("back",)))
        self.assertEqual(machine_run(code, (3, 7), 99), (42, 9, 2, 2))

    def test_tail_keeps_where_its_frame_goes_back(self):
        code = (((0, 0), (4, 0), (6, 1)), (("call", 1), ("push", 100), ("plus",), ("back",), ("push", 9), ("tail", 2),
                                           ("arg", 0), ("back",)))
        self.assertEqual(machine_run(code, (), 99), (109, 8, 2, 2))

    def test_frames(self):
        plain = (("f_0", 1, ("if", ("less", ("late", 0), ("number", 1)), ("number", 0),
                             ("plus", ("number", 1), ("call", "f_0", (("minus", ("late", 0), ("number", 1)),))))),)
        for number in (0, 1, 5, 1000, 8000):
            answer = machine_run(compiled(plain), (number,), 100000)
            self.assertEqual(answer, (number, 11 * number + 6, number + 1, number + 2))
        self.assertIsNone(machine_run(compiled(plain), (1000000,), 100000))

    def test_fuel_just_enough_and_one_less(self):
        for code, lates in ((TWICE, (4,)), (single(("push", 1), ("back",)), ()),
                            (compiled(staged(POWER, "pow", 5)), (3,))):
            made = machine_run(code, lates, 100000)[1]
            self.assertEqual(machine_run(code, lates, made)[1], made)
            for fuel in (made - 1, 1, 0):
                self.assertIsNone(machine_run(code, lates, fuel))

    def test_runs_without_end(self):
        for code in (single(("jump", 0)), single(("tail", 0)), single(("call", 0)), single(("push", 0), ("zero", 0)),
                     single(("push", 1), ("jump", 0))):
            for fuel in (0, 1, 100, 100000):
                self.assertIsNone(machine_run(code, (), fuel))

    def test_stuck_for_want_of_numbers(self):
        for word in ("plus", "minus", "times", "less"):
            for many in (0, 1):
                self.stuck(many, single(*push(1)[:many], (word,), ("back",)))
        self.stuck(0, single(("zero", 0)))
        for word in ("call", "tail"):
            for lates in range(1, 5):
                for many in range(lates):
                    self.stuck(many, (((0, 0), (many + 1, lates)), push(*range(many)) + ((word, 1), ("push", 1),
                        ("back",))))

    def test_stuck_for_want_of_a_late_number(self):
        for lates in range(4):
            for index in range(4):
                code = single(("push", 1), ("arg", index), ("plus",), ("back",), lates=lates)
                if index < lates:
                    self.assertEqual(machine_run(code, (7,) * lates, 9), (8, 4, 1, 2))
                else:
                    self.stuck(1, code, (7,) * lates)
        self.stuck(4, (((0, 2), (3, 1)), (("arg", 0), ("call", 1), ("back",), ("arg", 0), ("arg", 1), ("plus",),
                                          ("back",))), (1, 2))
        # After a tail the last frame has the late numbers of the function begun.
        self.stuck(2, (((0, 2), (2, 0)), (("push", 1), ("tail", 1), ("arg", 0), ("back",))), (1, 2))

    def test_stuck_beyond_the_instructions(self):
        self.stuck(1, single(("push", 1)))
        self.stuck(3, single(*push(1, 2), ("plus",)))
        self.stuck(3, single(("push", 1), ("push", 1), ("zero", 0)))
        self.stuck(4, (((0, 0), (1, 0)), (("jump", 3), ("push", 1), ("back",), ("call", 1))))

    def test_stuck_at_the_end_of_the_run(self):
        self.stuck(0, single(("back",)))
        self.stuck(2, single(*push(1, 2), ("back",)))
        self.stuck(3, single(*push(1, 2, 3), ("back",)))
        # A frame other than the first one may leave as many numbers as it likes.
        self.assertEqual(machine_run((((0, 0), (3, 0)), (("call", 1), ("plus",), ("back",)) + push(3,
            4) + (("back",),)), (), 9), (7, 6, 2, 2))
        self.assertEqual(machine_run((((0, 0), (3, 0)), (("push", 5), ("call", 1), ("back",), ("back",))), (), 9),
                         (5, 4, 2, 1))
        self.stuck(2, (((0, 0), (3, 0)), (("push", 5), ("call", 1), ("back",), ("push", 5), ("back",))))

    def test_one_that_is_stuck_counts_as_an_instruction(self):
        for address, code in ((0, single(("plus",))), (2, single(*push(1, 2), ("back",))),
                              (1, single(("push", 1), ("arg", 0))),
                              (1, single(("push", 1), ("less",))), (0, single(("zero", 0))),
                              (0, (((0, 0), (1, 2)), (("call", 1), ("back",))))):
            for fuel in range(5):
                if fuel > address:
                    self.stuck(address, code, (), fuel)
                else:
                    self.assertIsNone(machine_run(code, (), fuel))

    def test_an_address_beyond_the_instructions_counts_as_an_instruction(self):
        turned = (((0, 1), (10, 2)), (
            ("push", 2), ("arg", 0), ("call", 1), ("arg", 0), ("push", 0), ("times",), ("plus",), ("arg", 0),
            ("times",), ("back",), ("arg", 1), ("zero", 0)))
        returned = (((0, 0), (2, 0)), (("jump", 4), ("back",), ("push", 1), ("back",), ("call", 1)))
        ends = (("arg", 0), ("push", 1), ("plus",)), (("push", 1), ("jump", 2), ("arg", 0)), (("push", 1), ("zero", 0))
        # Each code with the number of instructions made before the address behind the last one is come to.
        cases = [(single(("push", 1)), (), 1), (single(("arg", 0), lates=1), (5,), 1), (single(*push(1, 2)), (), 2),
                 (turned, (1,), 5), (returned, (), 4)]
        cases += [(single(*instructions, lates=1), (7,), len(instructions)) for instructions in ends]
        for code, lates, made in cases:
            with self.subTest(code=code):
                for fuel in range(made + 1):
                    self.assertIsNone(machine_run(code, lates, fuel))
                for fuel in (made + 1, made + 2, 100000):
                    self.stuck(len(code[1]), code, lates, fuel)
        # Of as many instructions as may be, all fuel is used up by those made.
        many = 100000
        self.assertIsNone(machine_run(single(*[("push", 1)] * many), (), many))
        self.stuck(many - 1, single(*[("push", 1)] * (many - 1)), (), many)

    def test_functions_may_take_numbers_that_are_not_their_own(self):
        code = (((0, 0), (3, 0)), (("push", 5), ("call", 1), ("back",), ("push", 3), ("minus",), ("back",)))
        self.assertEqual(machine_run(code, (), 99), (2, 6, 2, 2))

    def test_most_numbers(self):
        self.assertEqual(machine_run(single(*push(*range(50)), *[("plus",)] * 49, ("back",)), (), 999),
                         (sum(range(50)), 100, 1, 50))
        many = 40000
        code = single(("push", 1), *[("push", 1)] * many, *[("plus",)] * many, ("back",))
        self.assertEqual(machine_run(code, (), 100000), (many + 1, 2 * many + 2, 1, many + 1))

    def test_a_code_of_as_many_instructions_as_may_be(self):
        code = single(*[("jump", at) for at in range(1, 99999)], ("push", 5), ("back",))
        self.assertEqual(machine_run(code, (), 100000), (5, 100000, 1, 1))
        self.assertIsNone(machine_run(code, (), 99999))

    def test_random_codes(self):
        rng = random.Random(34)
        found = {}
        for _ in range(20000):
            code = random_code(rng)
            if is_code(code) is not True:
                continue
            lates = tuple(rng.choice((0, 1, 2, 1000000)) for _ in range(code[0][0][1]))
            fuel = rng.choice((0, 1, 2, 3, 5, 8, 30, 200))
            expected = play(code, lates, fuel)
            kind = expected if expected is None else expected[0] == "stuck"
            found[kind] = found.get(kind, 0) + 1
            if kind:
                self.stuck(expected[1], code, lates, fuel)
            else:
                self.assertEqual(machine_run(code, lates, fuel), expected)
        self.assertGreater(min(found[kind] for kind in (None, False, True)), 500)

    def test_runs_of_compiled_programs(self):
        rng = random.Random(35)
        many = 0
        for _ in range(1000):
            plain = random_plain(rng, rng.randint(2, 6))
            lates = tuple(rng.choice((0, 1, 2, 5, 1000000)) for _ in range(plain[0][1]))
            code = compiled(plain)
            expected = plain_run(plain, lates, 300)
            answer = machine_run(code, lates, 3000)
            self.assertEqual(answer, play(code, lates, 3000))
            if expected is not None and answer is not None:
                many += 1
                self.assertEqual(answer[0], expected[0])
        self.assertGreater(many, 400)


def random_code(rng):
    """Return a random code of one or two functions, or what is nearly one."""
    many = rng.randint(1, 7)
    entries = ((0, rng.randint(0, 2)), (rng.randint(1, many), rng.randint(0, 2)))[:rng.randint(1, 2)]
    words = [("push", rng.choice((0, 1, 2, MOST))), ("push", 1), ("push", 3), ("arg", 0), ("arg", 1), ("plus",),
             ("minus",), ("times",), ("less",),
             ("jump", rng.randrange(many)), ("zero", rng.randrange(many)), ("call", len(entries) - 1),
             ("tail", len(entries) - 1), ("call", 0),
             ("back",), ("back",), ("back",)]
    return entries, tuple(rng.choice(words) for _ in range(many))


class HeightsTest(unittest.TestCase):
    def unsound(self, *instructions, entries=((0, 0),)):
        for function in (heights, deepest):
            with self.assertRaises(Unsound, msg=str(instructions)[:200]):
                function((entries, instructions))
        self.assertIsNone(measure((entries, instructions)))

    def test_ordinary_ones(self):
        self.assertEqual((heights(TWICE), deepest(TWICE)), ((0, 1, 2, 1), 2))
        code = compiled(staged(POWER, "pow", 1))
        self.assertEqual((heights(code), deepest(code)), ((0, 1, 2, 2, 1, 0, 1), 2))

    def test_each_kind_of_instruction(self):
        code = (((0, 1), (19, 2)), (
            ("arg", 0), ("push", 1), ("plus",), ("push", 2), ("minus",), ("push", 3), ("times",), ("push", 4),
            ("less",), ("zero", 14),
            ("push", 5), ("push", 6), ("call", 1), ("back",), ("push", 7), ("jump", 16), ("push", 8), ("tail", 1),
            ("back",),
            ("arg", 0), ("arg", 1), ("plus",), ("back",)))
        self.assertEqual(heights(code), (0, 1, 2, 1, 2, 1, 2, 1, 2, 1, 0, 1, 2, 1, 0, 1, 1, 2, None, 0, 1, 2, 1))
        self.assertEqual(deepest(code), 2)

    def test_instructions_that_are_never_come_to(self):
        self.assertEqual(heights(single(("push", 1), ("back",), ("plus",))), (0, 1, None))
        self.assertEqual(heights(single(("jump", 2), ("arg", 3), ("push", 1), ("back",), ("zero", 0))),
                         (0, None, 0, 1, None))
        self.assertEqual(deepest(single(("push", 1), ("back",), ("push", 1), ("push", 1), ("push", 1))), 1)
        self.assertEqual(heights((((0, 0), (3, 0)), (("push", 1), ("back",), ("plus",), ("push", 1), ("back",),
                                                     ("back",)))),
                         (0, 1, None, 0, 1, None))

    def test_functions_that_are_never_called_are_come_to_from_their_entries(self):
        self.unsound(("push", 1), ("back",), ("plus",), entries=((0, 0), (2, 0)))
        self.assertEqual(heights((((0, 0), (2, 1)), (("push", 1), ("back",), ("arg", 0), ("back",)))), (0, 1, 0, 1))

    def test_both_ways_of_a_zero_are_followed(self):
        self.unsound(("push", 1), ("zero", 4), ("push", 1), ("back",), ("plus",))
        self.unsound(("push", 0), ("zero", 3), ("plus",), ("push", 1), ("back",))
        self.assertEqual(heights(single(("push", 0), ("zero", 0), ("push", 1), ("back",))), (0, 1, 0, 1))

    def test_unlike_numbers(self):
        self.unsound(("push", 1), ("jump", 0))
        self.unsound(("push", 1), ("push", 0), ("zero", 4), ("push", 1), ("push", 1), ("plus",), ("back",))
        self.unsound(("push", 0), ("zero", 0), ("push", 1), ("push", 1), ("zero", 0))
        self.assertEqual(heights(single(("jump", 0))), (0,))
        self.assertEqual(deepest(single(("jump", 0))), 0)
        self.assertEqual(deepest(single(("tail", 0))), 0)

    def test_too_few_numbers(self):
        for word in ("plus", "minus", "times", "less"):
            self.unsound((word,), ("back",))
            self.unsound(("push", 1), (word,), ("back",))
            self.assertEqual(heights(single(*push(1, 1), (word,), ("back",))), (0, 1, 2, 1))
        self.unsound(("zero", 0), ("push", 1), ("back",))
        for lates in range(5):
            for many in range(6):
                # As many numbers as there are, the call, and as many operations as leave one of what is left.
                instructions = push(*range(many)) + (("call", 1),) + (("plus",),) * (many - lates) + (("back",),)
                code = (((0, 0), (len(instructions), lates)), instructions + (("push", 1), ("back",)))
                if lates > many:
                    self.unsound(*code[1], entries=code[0])
                else:
                    self.assertEqual(heights(code)[many:many + 2], (many, many - lates + 1))

    def test_numbers_of_others_are_not_a_function_s_own(self):
        self.unsound(("push", 5), ("call", 1), ("back",), ("push", 3), ("minus",), ("back",), entries=((0, 0), (3, 0)))

    def test_late_numbers(self):
        for lates in range(5):
            for index in range(4):
                if index < lates:
                    self.assertEqual(heights(single(("arg", index), ("back",), lates=lates)), (0, 1))
                else:
                    self.unsound(("arg", index), ("back",), entries=((0, lates),))
        self.unsound(("arg", 1), ("tail", 1), ("arg", 1), ("back",), entries=((0, 2), (2, 1)))

    def test_back(self):
        self.unsound(("back",))
        self.unsound(*push(1, 1), ("back",))
        self.assertEqual(heights(single(("push", 1), ("back",))), (0, 1))

    def test_tail(self):
        for lates in range(5):
            for many in range(6):
                code = (((0, 0), (many + 1, lates)), push(*range(many)) + (("tail", 1), ("push", 1), ("back",)))
                if lates == many:
                    self.assertEqual(heights(code), (*range(many + 1), 0, 1))
                    self.assertEqual(deepest(code), max(1, many))
                else:
                    self.unsound(*code[1], entries=code[0])

    def test_calls_leave_one_number(self):
        for lates in range(5):
            code = (((0, 0), (lates + 4, lates)), push(9, *range(lates)) + (("call", 1), ("plus",), ("back",),
                ("push", 1), ("back",)))
            self.assertEqual(heights(code), (*range(lates + 2), 2, 1, 0, 1))
            self.assertEqual(deepest(code), max(lates + 1, 2))

    def test_beyond_the_instructions_of_a_function(self):
        self.unsound(("push", 1))
        self.unsound(("push", 1), ("push", 1), ("back",), entries=((0, 0), (1, 0)))
        two = ((0, 0), (2, 0))
        for code, fits in ((push(1) + (("back",),) + push(1) + (("back",),), True),
                           ((("jump", 2), ("back",)) + push(1) + (("back",),), False),
                           (push(1) + (("back",), ("jump", 0), ("back",)), False),
                           (push(1) + (("back",), ("push", 1), ("zero", 0)), False),
                           (push(1) + (("zero", 0), ("push", 1), ("back",)), False),
                           ((("jump", 1), ("jump", 0), ("jump", 3), ("jump", 2)), True)):
            if fits:
                self.assertTrue(heights((two, code)))
            else:
                self.unsound(*code, entries=two)
        self.unsound(("push", 1), ("push", 1), ("zero", 0))
        self.unsound(("call", 0))

    def test_what_is_never_come_to_makes_nothing_unsound(self):
        for one in (("push", 1), ("plus",), ("arg", 3), ("zero", 0), ("back",), ("jump", 0), ("call", 0), ("tail", 0)):
            self.assertEqual(heights(single(("push", 1), ("back",), one, lates=4)), (0, 1, None))

    def test_great_codes(self):
        many = 49999
        code = single(*[("push", 1)] * (many + 1), *[("plus",)] * many, ("back",))
        self.assertEqual(deepest(code), many + 1)
        self.assertEqual(heights(code)[-1], 1)
        self.assertEqual(heights(single(*[("jump", at) for at in range(99999, 0, -1)], ("jump", 0)))[0], 0)
        self.assertEqual(deepest(compiled((("f_0", 1, chain(30)),))), 2)

    def test_compiled_programs_are_sound(self):
        rng = random.Random(36)
        for _ in range(700):
            code = compiled(random_plain(rng, rng.randint(1, 7)))
            expected = measure(code)
            with self.subTest(code=code):
                self.assertIsNotNone(expected)
                self.assertEqual(heights(code), expected)
                self.assertEqual(deepest(code), max(expected))

    def test_random_codes(self):
        rng = random.Random(37)
        found = [0, 0]
        for _ in range(30000):
            code = random_code(rng)
            if is_code(code) is not True:
                continue
            expected = measure(code)
            found[expected is None] += 1
            if expected is None:
                self.unsound(*code[1], entries=code[0])
            else:
                self.assertEqual(heights(code), expected)
                self.assertEqual(deepest(code), max(height for height in expected if height is not None))
        self.assertGreater(min(found), 400)

    def test_sound_code_is_stuck_nowhere(self):
        rng = random.Random(38)
        ended = 0
        for _ in range(20000):
            code = random_code(rng)
            if is_code(code) is True and measure(code) is not None:
                answer = machine_run(code, (3,) * code[0][0][1], 200)
                if answer is not None:
                    ended += 1
                    # Where one frame is enough, the stack is the function's own, or that of one that it goes on to.
                    self.assertTrue(answer[2] > 1 or answer[3] <= deepest(code))
        self.assertGreater(ended, 100)


class WrongArgumentsTest(unittest.TestCase):
    def test_arguments(self):
        code = Argument(TWICE, (TWICE[0], ()), BadCode)
        check_arguments(self, machine_run, code, Argument((2,), (1, 2), BadLates, is_good((0,))),
                        Argument(100, 100001, BadFuel, is_number(100000)))
        for function in (heights, deepest):
            check_arguments(self, function, code)

    def test_late_numbers(self):
        for lates in ((), (1, 2), [2], (-1,), (1000001,), (True,), (None,), ("2",), ((2,),), 2, "2", None, {2: 2},
                      (nested(100000),)):
            self.assertRaises(BadLates, machine_run, TWICE, lates, 100)
        for number in (0, 1000000):
            self.assertEqual(machine_run(TWICE, (number,), 4), (2 * number, 4, 1, 2))
        code = (((0, 2), (2, 3)), (("arg", 0), ("back",), ("push", 1), ("back",)))
        for many in range(6):
            if many == 2:
                self.assertEqual(machine_run(code, (7, 8), 9), (7, 2, 1, 1))
            else:
                self.assertRaises(BadLates, machine_run, code, (7,) * many, 9)

    def test_fuel(self):
        for fuel in (-1, 100001, MOST, True, False, None, "100", (), (100,), [100], {}):
            self.assertRaises(BadFuel, machine_run, TWICE, (2,), fuel)
        self.assertEqual(machine_run(TWICE, (2,), 100000), (4, 4, 1, 2))
        self.assertIsNone(machine_run(TWICE, (2,), 0))

    def test_errors_of_arguments_come_ahead_of_stuck_and_unsound(self):
        stuck = single(("plus",))
        self.assertRaises(BadLates, machine_run, stuck, (1,), 0)
        self.assertRaises(BadFuel, machine_run, stuck, (), -1)
        self.assertRaises(BadCode, heights, single(("plus",), None))
        self.assertRaises(Unsound, heights, stuck)
        with self.assertRaises(BadCode) as caught:
            machine_run(single(("plus",), None), None, None)
        self.assertEqual(caught.exception.index, 1)


if __name__ == "__main__":
    unittest.main()
