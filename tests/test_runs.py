import copy
import inspect
import random
import unittest

from staged import runs
from staged.errors import BadFuel, BadLates, BadName, BadNumber, BadProgram
from staged.programs import is_program
from staged.runs import run
from tests.samples import FOUR, POWER, VALUES, chain, nested, random_program

MOST = 10 ** 30
LATE, EARLY = ("late", 0), ("early",)
COUNTDOWN = (("down", 1, ("if", ("less", LATE, ("number", 1)), ("number", 0),
                          ("plus", ("number", 1), ("call", "down", ("move", 0), (("minus", LATE, ("number", 1)),))))),)


def value_of(body, early=0, lates=(), fuel=100000):
    """Return what a run of a function with this body gives; it may call zero, which gives the early number, and one."""
    others = (("zero", 0, EARLY), ("one", 1, LATE))
    return run((("f", len(lates), body),) + others, "f", early, lates, fuel)


class OutOfFuel(Exception):
    """A run makes more late steps than it may."""


class Reckoner:
    """A second way to run a program, by Python's own calls, for little fuel."""

    def __init__(self, program, fuel):
        self.functions = {name: body for name, _, body in program}
        self.fuel = fuel
        self.early_steps = 0
        self.late_steps = 0

    def step(self, is_early):
        if is_early:
            self.early_steps += 1
        else:
            self.late_steps += 1
        if self.late_steps > self.fuel:
            raise OutOfFuel

    def value(self, expression, early, lates):
        """Return the value of an expression and whether it is an early one."""
        word = expression[0]
        if word == "number":
            return expression[1]
        if word == "early":
            return early
        if word == "late":
            return lates[expression[1]]
        if word == "if":
            return self.value(expression[2 if self.holds(expression[1], early, lates) else 3], early, lates)
        if word == "call":
            return self.call(expression, early, lates)
        one, other = [self.value(part, early, lates) for part in expression[1:]]
        self.step("'late'" not in str(expression) and "'call'" not in str(expression))
        return {"plus": min(one + other, MOST), "minus": max(one - other, 0), "times": min(one * other, MOST)}[word]

    def holds(self, test, early, lates):
        if test[0] == "less":
            one, other = [self.value(part, early, lates) for part in test[1:]]
            self.step(False)
            return one < other
        self.step(True)
        return early < test[1] if test[0] == "below" else early % test[1] == test[2]

    def call(self, expression, early, lates):
        _, name, (word, number), parts = expression
        handed = [self.value(part, early, lates) for part in parts]
        self.step(False)
        if word == "move" and number:
            self.step(True)
        return self.value(self.functions[name], number if word == "give" else max(early + number, 0), handed)


def reckoned(program, name, early, lates, fuel):
    """Return what a run gives."""
    reckoner = Reckoner(program, fuel)
    body = {title: body for title, _, body in program}[name]
    try:
        value = reckoner.value(body, early, lates)
    except OutOfFuel:
        return None
    return value, reckoner.early_steps, reckoner.late_steps


class ValuesTest(unittest.TestCase):
    def test_interface(self):
        self.assertEqual(str(inspect.signature(runs.run)), "(program, name, early, lates, fuel)")
        self.assertEqual(runs.run.__module__, "staged.runs")

    def test_leaves(self):
        self.assertEqual(value_of(("number", 0)), (0, 0, 0))
        self.assertEqual(value_of(("number", 1000000)), (1000000, 0, 0))
        self.assertEqual(value_of(EARLY, 1000), (1000, 0, 0))
        for index in range(4):
            self.assertEqual(value_of(("late", index), 9, (0, 5, 1000000, 7)), ((0, 5, 1000000, 7)[index], 0, 0))

    def test_the_answer_is_a_triple_of_integers(self):
        answer = run(POWER, "pow", 3, (2,), 100)
        self.assertEqual([type(answer)] + [type(part) for part in answer], [tuple, int, int, int])

    def test_operations(self):
        self.assertEqual(value_of(("plus", LATE, ("number", 5)), 0, (3,)), (8, 0, 1))
        self.assertEqual(value_of(("times", LATE, ("number", 5)), 0, (3,)), (15, 0, 1))
        self.assertEqual(value_of(("minus", LATE, ("number", 5)), 0, (8,)), (3, 0, 1))

    def test_minus_is_no_less_than_zero(self):
        for late, expected in ((4, 0), (5, 0), (6, 1), (0, 0)):
            self.assertEqual(value_of(("minus", LATE, ("number", 5)), 0, (late,)), (expected, 0, 1))

    def test_values_reach_the_greatest_and_stay(self):
        million = ("number", 1000000)
        greatest = million
        for _ in range(4):
            greatest = ("times", greatest, million)
        self.assertEqual(value_of(greatest), (MOST, 4, 0))
        self.assertEqual(value_of(("times", greatest, million)), (MOST, 5, 0))
        self.assertEqual(value_of(("plus", greatest, greatest)), (MOST, 9, 0))
        self.assertEqual(value_of(("plus", greatest, ("number", 0))), (MOST, 5, 0))
        self.assertEqual(value_of(("plus", greatest, ("number", 1))), (MOST, 5, 0))
        less = ("minus", greatest, ("number", 1))
        self.assertEqual(value_of(less), (MOST - 1, 5, 0))
        self.assertEqual(value_of(("plus", less, ("number", 1))), (MOST, 6, 0))
        self.assertEqual(value_of(("plus", less, ("number", 2))), (MOST, 6, 0))
        self.assertEqual(value_of(("minus", ("plus", greatest, ("number", 5)), ("number", 5))), (MOST - 5, 6, 0))
        self.assertEqual(value_of(("times", less, ("number", 1))), (MOST - 1, 6, 0))
        self.assertEqual(value_of(("times", greatest, ("number", 0))), (0, 5, 0))
        self.assertEqual(value_of(("minus", greatest, greatest)), (0, 9, 0))

    def test_late_values_reach_the_greatest_and_stay(self):
        greatest = LATE
        for _ in range(4):
            greatest = ("times", greatest, LATE)
        self.assertEqual(value_of(greatest, 0, (1000000,)), (MOST, 0, 4))
        self.assertEqual(value_of(("plus", greatest, LATE), 0, (1000000,)), (MOST, 0, 5))
        self.assertEqual(value_of(("minus", greatest, LATE), 0, (1000000,)), (MOST - 1000000, 0, 5))

    def test_below(self):
        body = ("if", ("below", 5), ("number", 1), ("number", 2))
        self.assertEqual([value_of(body, early) for early in (0, 4, 5, 6, 1000)],
                         [(1, 1, 0), (1, 1, 0), (2, 1, 0), (2, 1, 0), (2, 1, 0)])
        self.assertEqual(value_of(("if", ("below", 0), ("number", 1), ("number", 2)), 0), (2, 1, 0))
        body = ("if", ("below", 1000), ("number", 1), ("number", 2))
        self.assertEqual([value_of(body, early) for early in (999, 1000)], [(1, 1, 0), (2, 1, 0)])

    def test_rest(self):
        for divisor in range(2, 7):
            for rest in range(divisor):
                body = ("if", ("rest", divisor, rest), ("number", 1), ("number", 2))
                for early in range(13):
                    self.assertEqual(value_of(body, early), (1 if early % divisor == rest else 2, 1, 0))

    def test_less(self):
        body = ("if", ("less", LATE, ("late", 1)), ("number", 1), ("number", 2))
        self.assertEqual([value_of(body, 0, lates) for lates in ((3, 4), (4, 4), (5, 4))],
                         [(1, 0, 1), (2, 0, 1), (2, 0, 1)])

    def test_only_the_branch_taken_is_worked_out(self):
        costly = ("plus", ("call", "one", ("move", 1), (LATE,)), ("times", EARLY, EARLY))
        for test, early in ((("below", 5), True), (("rest", 2, 0), True), (("less", LATE, ("number", 3)), False)):
            steps = (1, 0) if early else (0, 1)
            self.assertEqual(value_of(("if", test, LATE, costly), 2, (2,)), (2,) + steps)
            self.assertEqual(value_of(("if", test, costly, LATE), 7, (7,)), (7,) + steps)
            self.assertEqual(value_of(("if", test, costly, LATE), 2, (2,)), (6, steps[0] + 2, steps[1] + 2))
            self.assertEqual(value_of(("if", test, LATE, costly), 7, (7,)), (56, steps[0] + 2, steps[1] + 2))

    def test_moves(self):
        def value(move, early):
            return value_of(("call", "zero", move, ()), early)

        self.assertEqual([value(("give", n), 7) for n in (0, 7, 1000)], [(0, 0, 1), (7, 0, 1), (1000, 0, 1)])
        self.assertEqual([value(("move", c), 7) for c in (-5, -1, 0, 1, 5)],
                         [(2, 1, 1), (6, 1, 1), (7, 0, 1), (8, 1, 1), (12, 1, 1)])
        self.assertEqual([value(("move", -5), early) for early in (0, 4, 5, 6)],
                         [(0, 1, 1), (0, 1, 1), (0, 1, 1), (1, 1, 1)])
        self.assertEqual(value(("move", 5), 1000), (1005, 1, 1))

    def test_the_early_number_is_itself_again_behind_a_call(self):
        body = ("plus", ("call", "zero", ("give", 100), ()), EARLY)
        self.assertEqual(value_of(body, 3), (103, 0, 2))

    def test_the_late_numbers_are_themselves_again_behind_a_call(self):
        body = ("plus", ("call", "one", ("give", 100), (("number", 50),)), ("times", LATE, ("late", 1)))
        self.assertEqual(value_of(body, 3, (6, 7)), (92, 0, 3))

    def test_late_expressions_have_the_early_number_of_the_call(self):
        self.assertEqual(value_of(("call", "one", ("give", 100), (EARLY,)), 3), (3, 0, 1))
        self.assertEqual(value_of(("call", "one", ("move", 2), (("plus", EARLY, EARLY),)), 3), (6, 2, 1))

    def test_late_expressions_keep_their_order(self):
        program = (("f", 0, ("call", "g", ("give", 0), tuple(("number", n) for n in (1, 2, 3, 4)))),
                   ("g", 4, ("plus", ("times", ("late", 0), ("number", 1000)),
                             ("plus", ("times", ("late", 1), ("number", 100)),
                             ("plus", ("times", ("late", 2), ("number", 10)), ("late", 3))))))
        self.assertEqual(run(program, "f", 0, (), 100), (1234, 0, 7))

    def test_late_expressions_that_are_not_used_are_worked_out(self):
        program = (("f", 1, ("call", "g", ("give", 0), (("plus", LATE, LATE), ("times", EARLY, EARLY)))),
                   ("g", 2, ("number", 9)))
        self.assertEqual(run(program, "f", 5, (5,), 100), (9, 1, 2))
        ever = (("f", 0, ("call", "g", ("give", 0), (("call", "f", ("give", 0), ()),))), ("g", 1, ("number", 9)))
        self.assertIsNone(run(ever, "f", 5, (), 1000))
        self.assertEqual(run(ever, "g", 5, (1,), 0), (9, 0, 0))

    def test_each_function_can_begin(self):
        self.assertEqual(run(FOUR, "second", 4, (9,), 100), (9, 1, 0))
        self.assertEqual(run(FOUR, "second", 3, (9,), 100), (18, 1, 1))
        self.assertEqual(run(FOUR, "third", 10, (), 100), (1000000, 1, 0))
        self.assertEqual(run(FOUR, "first", 3, (2, 4), 100), (10, 3, 4))
        self.assertEqual(run(FOUR, "first", 3, (2, 3), 100), (0, 2, 2))


class StepsTest(unittest.TestCase):
    def test_operations_are_early_where_the_expression_is(self):
        early = ("plus", EARLY, ("number", 1))
        self.assertEqual(value_of(early, 3), (4, 1, 0))
        self.assertEqual(value_of(("times", early, ("minus", early, ("number", 2))), 3), (8, 4, 0))
        self.assertEqual(value_of(("times", early, LATE), 3, (2,)), (8, 1, 1))
        self.assertEqual(value_of(("times", LATE, early), 3, (2,)), (8, 1, 1))
        self.assertEqual(value_of(("minus", early, ("call", "zero", ("move", 0), ())), 3), (1, 1, 2))

    def test_an_operation_is_late_where_a_part_not_taken_is(self):
        mixed = ("if", ("below", 5), EARLY, LATE)
        self.assertEqual(value_of(("plus", mixed, ("number", 1)), 3, (7,)), (4, 1, 1))
        tested = ("if", ("less", LATE, ("number", 1)), EARLY, ("number", 2))
        self.assertEqual(value_of(("plus", tested, ("number", 1)), 3, (7,)), (3, 0, 2))
        early = ("if", ("below", 5), EARLY, ("number", 2))
        self.assertEqual(value_of(("plus", early, ("number", 1)), 3, (7,)), (4, 2, 0))

    def test_operations_in_an_early_test_count(self):
        body = ("if", ("less", ("plus", EARLY, ("number", 1)), ("times", LATE, ("number", 2))), ("number", 1),
                ("number", 2))
        self.assertEqual(value_of(body, 3, (3,)), (1, 1, 2))

    def test_a_deepest_expression(self):
        self.assertEqual(value_of(chain(30), 0, (5,)), (34, 0, 29))
        self.assertEqual(value_of(chain(30, EARLY), 5), (34, 29, 0))
        deep = LATE
        for _ in range(29):
            deep = ("call", "one", ("move", 1), (deep,))
        self.assertEqual(value_of(deep, 5, (5,)), (5, 29, 29))
        deep = LATE
        for _ in range(14):
            deep = ("if", ("less", deep, ("number", 3)), ("number", 1), ("number", 2))
        self.assertEqual(value_of(deep, 5, (5,)), (1, 0, 14))

    def test_fuel_just_enough_and_one_less(self):
        for early in (0, 1, 2, 5, 1000):
            with self.subTest(early):
                expected = (1, 2 * early + 1, 2 * early)
                self.assertEqual(run(POWER, "pow", early, (1,), 2 * early), expected)
                self.assertEqual(run(POWER, "pow", early, (1,), 2 * early + 1), expected)
                if early:
                    self.assertIsNone(run(POWER, "pow", early, (1,), 2 * early - 1))

    def test_fuel_is_for_each_kind_of_late_step(self):
        for body in (("plus", LATE, LATE), ("minus", LATE, LATE), ("times", LATE, LATE),
                     ("call", "zero", ("give", 0), ()),
                     ("if", ("less", LATE, LATE), LATE, LATE)):
            self.assertIsNone(value_of(body, 0, (0,), 0))
            self.assertEqual(value_of(body, 0, (0,), 1), (0, 0, 1))

    def test_early_steps_need_no_fuel(self):
        self.assertEqual(value_of(chain(30, EARLY), 5, (), 0), (34, 29, 0))
        self.assertEqual(value_of(("if", ("below", 6), ("if", ("rest", 5, 0), EARLY, LATE), LATE), 5, (1,), 0),
                         (5, 2, 0))

    def test_random_programs(self):
        rng = random.Random(3)
        found = [0, 0]
        for _ in range(1500):
            program = random_program(rng, rng.randint(3, 7))
            if not is_program(program):
                continue
            name, many, _ = rng.choice(program)
            lates = tuple(rng.choice((0, 1, 2, 5, 1000000)) for _ in range(many))
            early, fuel = rng.choice((0, 1, 2, 3, 6, 1000)), rng.choice((0, 1, 5, 20, 60))
            expected = reckoned(program, name, early, lates, fuel)
            found[expected is None] += 1
            with self.subTest(program=program, name=name, early=early, lates=lates, fuel=fuel):
                self.assertEqual(run(program, name, early, lates, fuel), expected)
                if expected is not None:
                    self.assertEqual(run(program, name, early, lates, expected[2]), expected)
                if expected is not None and expected[2]:
                    self.assertIsNone(run(program, name, early, lates, expected[2] - 1))
        self.assertGreater(min(found), 200)


class DeepRunsTest(unittest.TestCase):
    def test_without_end(self):
        for body in (("call", "f", ("move", 0), ()), ("plus", ("number", 1), ("call", "f", ("move", 1), ())),
                     ("plus", ("call", "f", ("move", 5), ()), ("number", 1)),
                     ("call", "one", ("give", 0), (("call", "f", ("give", 0), ()),))):
            self.assertIsNone(value_of(body))

    def test_most_late_steps(self):
        # Each number counted down makes four late steps, the last one makes one.
        self.assertEqual(run(COUNTDOWN, "down", 0, (24999,), 100000), (24999, 0, 99997))
        self.assertEqual(run(COUNTDOWN, "down", 0, (24999,), 99997), (24999, 0, 99997))
        self.assertIsNone(run(COUNTDOWN, "down", 0, (24999,), 99996))
        self.assertIsNone(run(COUNTDOWN, "down", 0, (25000,), 100000))

    def test_exactly_the_most_fuel(self):
        body = ("plus", ("plus", ("call", "down", ("give", 0), (LATE,)), ("number", 1)), ("number", 1))
        program = (("f", 1, body),) + COUNTDOWN
        self.assertEqual(run(program, "f", 0, (24999,), 100000), (25001, 0, 100000))
        self.assertIsNone(run(program, "f", 0, (24999,), 99999))
        self.assertIsNone(run((("f", 1, ("plus", body, ("number", 1))),) + COUNTDOWN, "f", 0, (24999,), 100000))

    def test_the_early_number_may_grow_beyond_where_it_may_begin(self):
        call = ("call", "f", ("move", 5), (("minus", LATE, ("number", 1)),))
        body = ("if", ("less", LATE, ("number", 1)), EARLY, call)
        self.assertEqual(run((("f", 1, body),), "f", 1000, (33000,), 100000), (166000, 33000, 99001))


class WrongArgumentsTest(unittest.TestCase):
    good = (POWER, "pow", 3, (2,), 100)
    errors = (BadProgram, BadName, BadNumber, BadLates, BadFuel)
    # For each argument a value that is wrong there.
    wrong = ((), "other", 1001, (1, 2), 100001)

    def error_of(self, at, value, error):
        arguments = self.good[:at] + (value,) + self.good[at + 1:]
        self.assertRaises(error, run, *arguments)

    def test_values_of_other_kinds(self):
        allowed = (lambda value: False, lambda value: value == "pow",
                   lambda value: type(value) is int and 0 <= value <= 1000,
                   lambda value: value == (0,) and type(value[0]) is int,
                   lambda value: type(value) is int and 0 <= value <= 100000)
        for at, error in enumerate(self.errors):
            for number, value in enumerate(VALUES):
                if not allowed[at](value):
                    with self.subTest(at=at, number=number):
                        self.error_of(at, value, error)

    def test_names(self):
        for name in ("po", "powe", "Pow", "pow ", "", "first", 1, None, True, ("pow",), ["pow"], {"pow": 1}):
            self.error_of(1, name, BadName)

    def test_early_numbers(self):
        for early in (-1, 1001, 10 ** 30, True, False, None, "3", (), (3,), [3], {3: 3}, ("number", 3)):
            self.error_of(2, early, BadNumber)
        for early in (0, 1000):
            self.assertIsNotNone(run(POWER, "pow", early, (0,), 2000))

    def test_late_numbers(self):
        for lates in ((), (1, 2), [2], (-1,), (1000001,), (True,), (False,), (None,), ("2",), ((2,),), ([2],), ({},),
                      2, "2", None,
                      True, {2: 2}, (nested(100000),)):
            self.error_of(3, lates, BadLates)
        self.assertEqual(run(POWER, "pow", 1, (0,), 9)[0], 0)
        self.assertEqual(run(POWER, "pow", 1, (1000000,), 9)[0], 1000000)

    def test_as_many_late_numbers_as_the_function_has(self):
        for name, many in (("first", 2), ("second", 1), ("third", 0), ("fourth", 4)):
            for number in range(7):
                with self.subTest(name, number=number):
                    if number == many:
                        run(FOUR, name, 3, (1,) * number, 100)
                    else:
                        self.assertRaises(BadLates, run, FOUR, name, 3, (1,) * number, 100)
        for lates in ([], None, 0, "", {}, False):
            self.assertRaises(BadLates, run, FOUR, "third", 3, lates, 100)
        for lates in ((1, 2, 3, True), (1, 2, 3, -1), (1000001, 2, 3, 4), (1, None, 3, 4)):
            self.assertRaises(BadLates, run, FOUR, "fourth", 3, lates, 100)

    def test_fuel(self):
        for fuel in (-1, 100001, 10 ** 30, True, False, None, "100", (), (100,), [100], {}):
            self.error_of(4, fuel, BadFuel)
        self.assertIsNone(run(POWER, "pow", 1, (2,), 0))
        self.assertEqual(run(POWER, "pow", 1, (2,), 100000), (2, 3, 2))

    def test_the_leftmost_error_is_raised(self):
        for one in range(5):
            for other in range(one, 5):
                arguments = tuple(self.wrong[at] if at in (one, other) else self.good[at] for at in range(5))
                with self.subTest(one=one, other=other):
                    self.assertRaises(self.errors[one], run, *arguments)
            arguments = self.good[:one] + self.wrong[one:]
            self.assertRaises(self.errors[one], run, *arguments)
            arguments = self.good[:one] + (None,) * (5 - one)
            self.assertRaises(self.errors[one], run, *arguments)

    def test_arguments_are_not_changed(self):
        for at, error in enumerate(self.errors):
            for value in ([1, [2]], {"pow": [1]}, (["pow"],)):
                kept = copy.deepcopy(value)
                self.error_of(at, value, error)
                self.assertEqual(value, kept)
        program, lates = copy.deepcopy(FOUR), (2, 4)
        run(program, "first", 3, lates, 100)
        self.assertEqual((program, lates), (FOUR, (2, 4)))


if __name__ == "__main__":
    unittest.main()
