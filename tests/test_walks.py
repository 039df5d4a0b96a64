import inspect
import random
import unittest

from staged import walks
from staged.errors import BadNumber, BadPoint, BadProgram
from staged.programs import is_program
from staged.walks import common, ground, height, next_points, rise
from tests.arguments import Argument, check_arguments, is_good, is_number
from tests.samples import FOUR, POWER, chain, random_program, random_walker
from tests.stager import staged_point

LATE, EARLY = ("late", 0), ("early",)
ALL_RESTS = ("if", ("rest", 2, 1), ("if", ("rest", 3, 1), ("if", ("rest", 4, 1), EARLY, EARLY), EARLY),
             ("if", ("rest", 5, 1), ("if", ("rest", 6, 1), EARLY, EARLY), EARLY))


def to(number, *handed):
    """Return a call with this early number."""
    return ("call", ("zero", "one", "two")[len(handed)], ("give", number), handed)


def by(number):
    """Return a call with a move by this number."""
    return ("call", "zero", ("move", number), ())


def of_body(body):
    """Return a program with a function f with this body, and one late number."""
    return (("f", 1, body), ("zero", 0, EARLY), ("one", 1, LATE), ("two", 2, LATE))


def numbers_called(body, early):
    """Return the early numbers to which a body's calls lead, in the order of the points."""
    return [number for _, number in next_points(of_body(body), ("f", early))]


class NextPointsTest(unittest.TestCase):
    def test_interface(self):
        shapes = {"next_points": "(program, point)", "ground": "(program)", "common": "(program)",
                  "rise": "(program)", "height": "(program, early)"}
        for name, shape in shapes.items():
            with self.subTest(name):
                self.assertEqual(str(inspect.signature(getattr(walks, name))), shape)
                self.assertEqual(getattr(walks, name).__module__, "staged.walks")

    def test_no_calls(self):
        for body in (EARLY, LATE, ("number", 3), ("plus", EARLY, LATE), ALL_RESTS):
            self.assertEqual(next_points(of_body(body), ("f", 3)), ())

    def test_kinds_of_answers(self):
        answer = next_points(POWER, ("pow", 3))
        self.assertEqual((type(answer), type(answer[0]), type(answer[0][1])), (tuple, tuple, int))

    def test_moves(self):
        for early in (0, 1, 4, 5, 6, 1000, 1001, 9999995):
            for number in range(-5, 6):
                with self.subTest(early=early, number=number):
                    self.assertEqual(next_points(of_body(by(number)), ("f", early)),
                                     (("zero", max(0, early + number)),))
            for number in (0, 7, 1000):
                self.assertEqual(next_points(of_body(to(number)), ("f", early)), (("zero", number),))

    def test_points_are_ascending_and_unlike(self):
        body = ("plus", ("plus", to(10), ("plus", to(9), to(10))), ("plus", to(5, LATE), ("plus", by(1), to(100))))
        expected = (("one", 5), ("zero", 9), ("zero", 10), ("zero", 100))
        self.assertEqual(next_points(of_body(body), ("f", 9)), expected)
        self.assertEqual(next_points(of_body(body), ("f", 8)), expected)
        self.assertEqual(next_points(of_body(body), ("f", 7)), expected[:1] + (("zero", 8),) + expected[1:])

    def test_calls_stand_anywhere(self):
        for word in ("plus", "minus", "times"):
            self.assertEqual(numbers_called((word, to(1), to(2)), 3), [1, 2])
        self.assertEqual(numbers_called(("if", ("less", to(1), to(2)), to(3), to(4)), 3), [1, 2, 3, 4])

    def test_calls_within_late_expressions_of_calls(self):
        body = to(1, ("plus", LATE, to(2, to(3), to(4, to(5)))))
        self.assertEqual(next_points(of_body(body), ("f", 3)),
                         (("one", 1), ("one", 4), ("two", 2), ("zero", 3), ("zero", 5)))

    def test_tests_of_the_early_number_are_answered(self):
        below = ("if", ("below", 5), to(1), to(2))
        self.assertEqual([numbers_called(below, early) for early in (0, 4, 5, 6, 10000000)], [[1], [1], [2], [2], [2]])
        self.assertEqual(numbers_called(("if", ("below", 0), to(1), to(2)), 0), [2])
        for divisor in range(2, 7):
            for rest in range(divisor):
                body = ("if", ("rest", divisor, rest), to(1), to(2))
                for early in (*range(13), 10000000):
                    self.assertEqual(numbers_called(body, early), [1 if early % divisor == rest else 2])

    def test_both_branches_of_a_less_are_followed(self):
        for test in (("less", LATE, EARLY), ("less", ("plus", EARLY, LATE), ("number", 1000000)),
                     ("less", ("number", 0), LATE)):
            self.assertEqual(numbers_called(("if", test, to(1), to(2)), 3), [1, 2])

    def test_a_less_that_could_be_answered_is_not(self):
        mixed = ("if", ("below", 9), ("number", 1), LATE)
        self.assertEqual(numbers_called(("if", ("less", mixed, ("number", 2)), to(1), to(2)), 3), [1, 2])

    def test_tests_within_tests_and_calls(self):
        inner = ("if", ("below", 5), to(1), to(2))
        for body in (("if", ("less", inner, LATE), EARLY, EARLY), ("plus", EARLY, inner), ("minus", inner, LATE)):
            self.assertEqual([numbers_called(body, early) for early in (4, 5)], [[1], [2]])
        body = to(7, ("if", ("rest", 2, 0), inner, to(3)))
        self.assertEqual([numbers_called(body, early) for early in (3, 4, 6)], [[7, 3], [7, 1], [7, 2]])

    def test_a_branch_not_taken_is_not_followed(self):
        body = ("if", ("below", 5), ("if", ("less", to(1), LATE), to(2), to(3)), to(4, to(5)))
        self.assertEqual([numbers_called(body, early) for early in (4, 5)], [[1, 2, 3], [4, 5]])

    def test_deepest_bodies(self):
        self.assertEqual(numbers_called(chain(30, by(1)), 3), [4])
        call = to(0, LATE)
        for number in range(1, 29):
            call = to(number, call)
        self.assertEqual(numbers_called(call, 3), list(range(29)))

    def test_the_greatest_points(self):
        self.assertEqual(next_points(of_body(by(0)), ("f", 10000000)), (("zero", 10000000),))
        self.assertEqual(next_points(of_body(by(-1)), ("f", 10000000)), (("zero", 9999999),))
        self.assertEqual(next_points(of_body(by(5)), ("f", 10000000)), (("zero", 10000005),))
        self.assertRaises(BadPoint, next_points, of_body(by(0)), ("f", 10000001))

    def test_random_programs(self):
        rng = random.Random(5)
        for _ in range(400):
            program = rng.choice((random_program, random_walker))(rng)
            if is_program(program):
                for name, _, _ in program:
                    for early in (0, 1, 2, 3, 6, 7, 1000, 10000000):
                        expected = tuple(sorted(staged_point(program, (name, early))[1]))
                        self.assertEqual(next_points(program, (name, early)), expected)


class BoundsTest(unittest.TestCase):
    def test_ground_of_tests_below(self):
        for number in (0, 1, 6, 1000):
            self.assertEqual(ground(of_body(("if", ("below", number), EARLY, LATE))), number)

    def test_ground_of_moves(self):
        for number in (0, 1, 6, 1000):
            self.assertEqual(ground(of_body(to(number))), number)
        for number in range(-5, 6):
            self.assertEqual(ground(of_body(by(number))), max(0, -number))

    def test_ground_is_the_greatest(self):
        parts = (("if", ("below", 3), by(1), LATE), ("plus", LATE, to(2)), by(-4), ("if", ("rest", 6, 5), by(5), EARLY))
        self.assertEqual(ground(of_body(to(0, ("plus", ("plus", *parts[:2]), ("plus", *parts[2:]))))), 4)
        self.assertEqual(ground(of_body(to(0, ("plus", parts[0], parts[1])))), 3)
        self.assertEqual(ground(of_body(to(0, ("plus", parts[1], parts[3])))), 2)
        self.assertEqual(ground(of_body(parts[3])), 0)

    def test_numbers_are_no_bounds(self):
        body = ("plus", ("number", 999), ("if", ("less", LATE, ("number", 888)), ("number", 777), EARLY))
        program = of_body(body)
        self.assertEqual([ground(program), common(program), rise(program)], [0, 1, 0])

    def test_bounds_of_all_functions(self):
        program = (("f", 0, ("if", ("below", 3), EARLY, EARLY)), ("g", 0, ("if", ("rest", 4, 1), EARLY, EARLY)),
                   ("h", 0, ("plus", ("call", "f", ("move", 2), ()), ("call", "f", ("give", 8), ()))),
                   ("i", 0, ("if", ("rest", 6, 1), EARLY, ("call", "i", ("move", -3), ()))))
        self.assertEqual([ground(program), common(program), rise(program)], [8, 12, 2])
        self.assertEqual([height(program, early) for early in (0, 8, 9, 1000)], [104, 104, 105, 1096])

    def test_bounds_within_tests_and_late_expressions(self):
        inner = ("if", ("below", 3), ("if", ("rest", 5, 0), by(4), by(-2)), EARLY)
        for body in (inner, ("if", ("less", inner, LATE), EARLY, EARLY), ("if", ("less", LATE, inner), EARLY, EARLY),
                     ("if", ("less", LATE, EARLY), inner, LATE), ("if", ("below", 0), LATE, inner),
                     ("plus", inner, LATE), ("times", LATE, inner), to(0, inner), to(0, EARLY, to(1, inner))):
            program = of_body(body)
            self.assertEqual([ground(program), common(program), rise(program)], [3, 5, 4])

    def test_common(self):
        self.assertEqual(common(POWER), 1)
        self.assertEqual(common(of_body(ALL_RESTS)), 60)
        for divisor in range(2, 7):
            self.assertEqual(common(of_body(("if", ("rest", divisor, 0), EARLY, LATE))), divisor)
        for one in range(2, 7):
            for other in range(2, 7):
                body = ("if", ("rest", one, 1), ("if", ("rest", other, 0), EARLY, LATE), LATE)
                expected = min(n for n in range(2, 61) if n % one == 0 and n % other == 0)
                self.assertEqual(common(of_body(body)), expected)

    def test_rise(self):
        self.assertEqual(rise(POWER), 0)
        for number in range(-5, 6):
            self.assertEqual(rise(of_body(by(number))), max(0, number))
            self.assertEqual(rise(of_body(("plus", by(number), by(2)))), max(2, number))
        self.assertEqual(rise(of_body(to(1000))), 0)

    def test_height(self):
        self.assertEqual([height(POWER, early) for early in (0, 1, 2, 1000)], [1, 1, 2, 1000])
        program = (("f", 0, ("if", ("rest", 4, 3), ("call", "g", ("move", 3), ()), ("number", 1))),
                   ("g", 0, ("if", ("below", 100), EARLY, ("call", "f", ("give", 20), ()))))
        self.assertEqual([height(program, early) for early in (0, 99, 100, 101, 1000)], [124, 124, 124, 125, 1024])
        eight = tuple((name * 2, 0, ("plus", ("if", ("rest", 5, 1), EARLY, EARLY), ("if", ("rest", 4, 1), EARLY, (
            "if", ("rest", 6, 1), EARLY, ("call", name * 2, ("move", 5), ()))))) for name in "abcdefgh")
        self.assertEqual(height(eight, 1000), 1000 + 8 * 60 * 5)
        self.assertEqual(height(eight, 0), 8 * 60 * 5)

    def test_four(self):
        self.assertEqual([ground(FOUR), common(FOUR), rise(FOUR), height(FOUR, 3), height(FOUR, 11)],
                         [10, 3, 5, 70, 71])


class WrongArgumentsTest(unittest.TestCase):
    program = Argument(POWER, (), BadProgram)

    def test_points(self):
        point = Argument(("pow", 1), ("other", 1), BadPoint, is_good(("pow", 1)))
        check_arguments(self, next_points, self.program, point)
        for wrong in (("pow", -1), ("pow", 10000001), ("pow", 10 ** 30), ("pow", True), ("pow", False), ("pow", None),
                      ("pow", "1"), ("pow", (1,)), ("pow", [1]), ("pow", {}), ("po", 1), ("", 1), (None, 1), (1, 1),
                      (1, "pow"), (["pow"], 1), ({"pow": 1}, 1), (("pow",), 1), ("pow",), ("pow", 1, 1), ["pow", 1],
                      {"pow": 1}, "pow", (("pow", 1),), ("first", 1)):
            self.assertRaises(BadPoint, next_points, POWER, wrong)
        for early in (0, 1, 10000000):
            self.assertEqual(len(next_points(POWER, ("pow", early))), early > 0)

    def test_bounds(self):
        for function in (ground, common, rise):
            check_arguments(self, function, self.program)

    def test_early_numbers(self):
        check_arguments(self, height, self.program, Argument(3, 1001, BadNumber, is_number(1000)))
        for early in (-1, 1001, 10000000, True, False, None, "3", (3,), [3], {3: 3}, ("pow", 3)):
            self.assertRaises(BadNumber, height, POWER, early)


if __name__ == "__main__":
    unittest.main()
