import copy
import inspect
import random
import unittest

from staged import staging
from staged.errors import BadFuel, BadLates, BadName, BadNumber, BadPoint, BadProgram, TooMany
from staged.halting import points
from staged.plains import is_plain, plain_run
from staged.programs import is_program
from staged.runs import run
from staged.staging import body_of, pays_from, staged, staging_steps
from tests.arguments import Argument, check_arguments, is_good, is_number
from tests.samples import FOUR, POWER, chain, random_program, random_walker
from tests.stager import staged_point

MOST = 10 ** 30
LATE, EARLY, ONE = ("late", 0), ("early",), ("number", 1)
UP = (("go", 0, ("if", ("below", 5), ("number", 0), ("call", "go", ("move", 1), ()))),)
DOWN = (("down", 0, ("if", ("below", 1), ("number", 0), ("call", "down", ("move", -1), ()))),)
EVER = (("go", 1, ("if", ("less", LATE, ONE), EARLY, ("call", "go", ("move", 1), (("minus", LATE, ONE),)))),)


def left(body, early, lates=1):
    """Return what is left of a function with this body, which may call zero, one and two."""
    others = tuple((name, many, ("number", many)) for many, name in enumerate(("zero", "one", "two")))
    return body_of((("f", lates, body),) + others, ("f", early))


def steps_of(body, early):
    """Return the early steps of staging a function with this body, which may call zero, one and two."""
    others = tuple((name, many, ("number", many)) for many, name in enumerate(("zero", "one", "two")))
    return staging_steps((("f", 1, body),) + others, "f", early)


def number(value):
    return ("number", value)


class BodyOfTest(unittest.TestCase):
    def test_interface(self):
        shapes = {"staged": "(program, name, early)", "body_of": "(program, point)",
                  "staging_steps": "(program, name, early)", "pays_from": "(program, name, early, lates, fuel)"}
        for name, shape in shapes.items():
            with self.subTest(name):
                self.assertEqual(str(inspect.signature(getattr(staging, name))), shape)
                self.assertEqual(getattr(staging, name).__module__, "staged.staging")

    def test_leaves(self):
        for early in (0, 1, 1000, 10000000):
            self.assertEqual(left(EARLY, early), number(early))
            self.assertEqual(left(number(7), early), number(7))
            self.assertEqual(left(("late", 3), early, 4), ("late", 3))

    def test_early_expressions_are_numbers(self):
        for word, expected in (("plus", 10), ("minus", 4), ("times", 21)):
            self.assertEqual(left((word, EARLY, number(3)), 7), number(expected))
        self.assertEqual(left(("minus", number(3), EARLY), 7), number(0))
        self.assertEqual(left(("plus", ("times", EARLY, EARLY), ("minus", EARLY, ONE)), 7), number(55))
        self.assertEqual(left(("times", number(1000000), number(1000000)), 7), number(10 ** 12))

    def test_values_reach_the_greatest_and_stay(self):
        greatest = number(1000000)
        for _ in range(4):
            greatest = ("times", greatest, number(1000000))
        self.assertEqual(left(greatest, 3), number(MOST))
        self.assertEqual(left(("times", greatest, EARLY), 3), number(MOST))
        self.assertEqual(left(("plus", greatest, EARLY), 3), number(MOST))
        self.assertEqual(left(("minus", ("plus", greatest, EARLY), EARLY), 3), number(MOST - 3))
        self.assertEqual(left(("plus", ("minus", greatest, EARLY), ("plus", EARLY, EARLY)), 3), number(MOST))
        self.assertEqual(left(("times", greatest, number(0)), 3), number(0))
        self.assertEqual(left(("plus", greatest, LATE), 3), ("plus", number(MOST), LATE))

    def test_early_tests_are_answered(self):
        below = ("if", ("below", 5), LATE, ("plus", LATE, EARLY))
        self.assertEqual([left(below, early) for early in (4, 5)], [LATE, ("plus", LATE, number(5))])
        rest = ("if", ("rest", 6, 5), LATE, EARLY)
        self.assertEqual([left(rest, early) for early in (4, 5, 6, 11)], [number(4), LATE, number(6), LATE])
        both = ("if", ("below", 9), ("if", ("rest", 2, 0), number(11), number(22)), number(33))
        self.assertEqual([left(both, early) for early in (7, 8, 9)], [number(22), number(11), number(33)])

    def test_answered_tests_may_stand_anywhere(self):
        inner = ("if", ("below", 5), LATE, ONE)
        for early, part in ((4, LATE), (5, ONE)):
            for word in ("plus", "minus", "times"):
                self.assertEqual(left((word, inner, LATE), early), (word, part, LATE))
                self.assertEqual(left((word, LATE, inner), early), (word, LATE, part))
            self.assertEqual(left(("call", "one", ("give", 0), (inner,)), early), ("call", "one_0", (part,)))
            self.assertEqual(left(("if", ("less", inner, LATE), LATE, ONE), early),
                             ("if", ("less", part, LATE), LATE, ONE))
            self.assertEqual(left(("if", ("less", LATE, inner), LATE, ONE), early),
                             ("if", ("less", LATE, part), LATE, ONE))
            self.assertEqual(left(("if", ("less", LATE, ONE), inner, ONE), early),
                             ("if", ("less", LATE, ONE), part, ONE))
            self.assertEqual(left(("if", ("less", LATE, ONE), ONE, inner), early),
                             ("if", ("less", LATE, ONE), ONE, part))

    def test_what_is_not_early_is_left_even_where_it_could_be_worked_out(self):
        mixed = ("if", ("below", 5), ONE, LATE)
        self.assertEqual(left(("plus", mixed, number(2)), 3), ("plus", ONE, number(2)))
        self.assertEqual(left(("plus", mixed, ("plus", EARLY, ONE)), 3), ("plus", ONE, number(4)))
        self.assertEqual(left(("if", ("less", mixed, EARLY), EARLY, LATE), 3),
                         ("if", ("less", ONE, number(3)), number(3), LATE))
        self.assertEqual(left(("times", number(0), LATE), 3), ("times", number(0), LATE))

    def test_calls_name_points(self):
        for early in (0, 4, 5, 1000, 9999995):
            for move in range(-5, 6):
                self.assertEqual(left(("call", "zero", ("move", move), ()), early),
                                 ("call", f"zero_{max(0, early + move)}", ()))
            for given in (0, 7, 1000):
                self.assertEqual(left(("call", "one", ("give", given), (LATE,)), early),
                                 ("call", f"one_{given}", (LATE,)))

    def test_late_expressions_have_the_early_number_of_the_call(self):
        inner = ("call", "one", ("move", 1), (("plus", EARLY, ("call", "zero", ("move", 2), ())),))
        self.assertEqual(left(("call", "two", ("give", 50), (EARLY, inner)), 3),
                         ("call", "two_50", (number(3), ("call", "one_4", (("plus", number(3), ("call", "zero_5", ())),)))))

    def test_deepest_bodies(self):
        self.assertEqual(left(chain(30), 3), chain(30))
        self.assertEqual(left(chain(30, EARLY), 3), number(32))
        deep = LATE
        for _ in range(29):
            deep = ("if", ("below", 5), deep, ONE)
        self.assertEqual([left(deep, early) for early in (4, 5)], [LATE, ONE])

    def test_points_that_no_staging_from_a_thousand_meets(self):
        self.assertEqual(body_of(POWER, ("pow", 10000000)), ("times", LATE, ("call", "pow_9999999", (LATE,))))
        self.assertEqual(body_of(UP, ("go", 10000000)), ("call", "go_10000001", ()))
        self.assertEqual(body_of(UP, ("go", 5)), ("call", "go_6", ()))

    def test_random_programs(self):
        rng = random.Random(12)
        for _ in range(800):
            program = random_program(rng, rng.randint(3, 7))
            if is_program(program):
                for name, _, _ in program:
                    early = rng.choice((0, 1, 2, 3, 6, 7, 1000, 10000000))
                    with self.subTest(program=program, name=name, early=early):
                        self.assertEqual(body_of(program, (name, early)), staged_point(program, (name, early))[0][2])


class StagedTest(unittest.TestCase):
    def test_ordinary_ones(self):
        self.assertEqual(staged(POWER, "pow", 0), (("pow_0", 1, ONE),))
        self.assertEqual(staged(POWER, "pow", 2), (
            ("pow_2", 1, ("times", LATE, ("call", "pow_1", (LATE,)))), ("pow_0", 1, ONE),
            ("pow_1", 1, ("times", LATE, ("call", "pow_0", (LATE,))))))
        self.assertEqual(staged(FOUR, "first", 4), (
            ("first_4", 2, ("if", ("less", ("call", "second_7", (number(4),)), ("late", 1)),
                            ("plus", LATE, ("call", "third_9", ())), number(0))),
            ("second_7", 1, LATE), ("third_9", 0, number(9))))

    def test_the_first_point_is_first_and_the_others_ascend(self):
        program = (("z", 0, ("call", "g", ("give", 10), ())), ("g", 0, ("if", ("below", 1), ("call", "z", ("give", 3), ()),
                                                                       ("call", "g", ("move", -5), ()))))
        self.assertEqual([name for name, _, _ in staged(program, "z", 3)], ["z_3", "g_0", "g_5", "g_10"])
        self.assertEqual([name for name, _, _ in staged(program, "g", 5)], ["g_5", "g_0", "g_10", "z_3"])
        self.assertEqual([name for name, _, _ in staged(program, "g", 0)], ["g_0", "g_5", "g_10", "z_3"])

    def test_points_not_met_have_no_function(self):
        self.assertEqual(staged(FOUR, "third", 3), (("third_3", 0, number(3)),))
        self.assertEqual(staged(UP, "go", 4), (("go_4", 0, number(0)),))

    def test_none_where_staging_never_ends(self):
        for early in (5, 6, 1000):
            self.assertIsNone(staged(UP, "go", early))
        self.assertIsNone(staged(EVER, "go", 0))

    def test_most_points(self):
        plain = staged(DOWN, "down", 299)
        self.assertEqual((len(plain), plain[0][0], plain[1][0], plain[-1][0]), (300, "down_299", "down_0", "down_298"))
        self.assertTrue(is_plain(plain))
        for early in (300, 301, 1000):
            with self.assertRaises(TooMany) as caught:
                staged(DOWN, "down", early)
            self.assertEqual(caught.exception.most, 300)

    def test_never_ending_is_not_too_many(self):
        # Down to 0 past more than 300 points, and up again for ever.
        program = (("f", 0, ("if", ("below", 1), ("call", "go", ("give", 5), ()), ("call", "f", ("move", -1), ()))),) + UP
        self.assertIsNone(staged(program, "f", 1000))
        self.assertIsNone(staging_steps(program, "f", 1000))
        self.assertIsNone(pays_from(program, "f", 1000, (), 100))

    def test_random_programs(self):
        rng = random.Random(13)
        many = 0
        for _ in range(600):
            program = rng.choice((random_program, random_walker))(rng)
            if not is_program(program):
                continue
            name, early = rng.choice(program)[0], rng.choice((0, 1, 2, 5, 9))
            met = points(program, name, early)
            if met is None:
                self.assertIsNone(staged(program, name, early))
            elif len(met) <= 300:
                order = sorted(met, key=lambda point: (point != (name, early), point))
                plain = staged(program, name, early)
                many += len(plain) > 3
                with self.subTest(program=program, name=name, early=early):
                    self.assertEqual(plain, tuple(staged_point(program, point)[0] for point in order))
                    self.assertTrue(is_plain(plain))
        self.assertGreater(many, 50)

    def test_plain_runs_have_the_values_and_the_late_steps_of_runs(self):
        rng = random.Random(14)
        found = [0, 0]
        for _ in range(700):
            program = random_program(rng, rng.randint(4, 7))
            if not is_program(program):
                continue
            name, many, _ = rng.choice(program)
            early, fuel = rng.choice((0, 1, 2, 5, 9)), rng.choice((0, 3, 20, 500))
            met = points(program, name, early)
            if met is None or len(met) > 300:
                continue
            lates = tuple(rng.choice((0, 1, 2, 5, 1000000)) for _ in range(many))
            answer = run(program, name, early, lates, fuel)
            expected = None if answer is None else (answer[0], answer[2])
            found[answer is None] += 1
            with self.subTest(program=program, name=name, early=early, lates=lates, fuel=fuel):
                self.assertEqual(plain_run(staged(program, name, early), lates, fuel), expected)
        self.assertGreater(min(found), 50)


class StagingStepsTest(unittest.TestCase):
    def test_points_together(self):
        self.assertEqual([staging_steps(POWER, "pow", early) for early in (0, 1, 2, 3, 100)], [1, 3, 5, 7, 201])
        self.assertEqual(staging_steps(FOUR, "first", 4), 2 + 1 + 1)

    def test_a_point_counts_once_however_often_it_is_called(self):
        call = ("call", "pow", ("move", 0), (LATE,))
        program = (("f", 1, ("plus", ("plus", call, call), call)),) + POWER
        self.assertEqual(staging_steps(program, "f", 3), 7)

    def test_no_steps(self):
        for body in (LATE, EARLY, ONE, ("plus", LATE, EARLY), ("call", "zero", ("give", 3), ()),
                     ("call", "one", ("move", 0), (LATE,)), ("if", ("less", LATE, EARLY), EARLY, ONE)):
            self.assertEqual(steps_of(body, 7), 0)

    def test_operations(self):
        for word in ("plus", "minus", "times"):
            self.assertEqual(steps_of((word, EARLY, ONE), 7), 1)
            self.assertEqual(steps_of((word, ONE, ONE), 7), 1)
            self.assertEqual(steps_of((word, (word, EARLY, ONE), (word, EARLY, EARLY)), 7), 3)
            self.assertEqual(steps_of((word, (word, EARLY, ONE), LATE), 7), 1)
            self.assertEqual(steps_of((word, LATE, (word, EARLY, ONE)), 7), 1)
        self.assertEqual(steps_of(chain(30, EARLY), 7), 29)
        self.assertEqual(steps_of(chain(30), 7), 0)

    def test_operations_that_are_not_early_make_no_early_step(self):
        mixed = ("if", ("below", 9), ONE, LATE)
        self.assertEqual(steps_of(("plus", mixed, ONE), 7), 1)
        self.assertEqual(steps_of(("plus", mixed, ("plus", ONE, ONE)), 7), 2)

    def test_tests(self):
        for test in (("below", 9), ("below", 5), ("rest", 2, 1), ("rest", 2, 0)):
            self.assertEqual(steps_of(("if", test, LATE, ONE), 7), 1)
            self.assertEqual(steps_of(("if", test, EARLY, ONE), 7), 1)
        inner = ("if", ("rest", 2, 1), EARLY, ("plus", EARLY, ("plus", ONE, ONE)))
        self.assertEqual([steps_of(("if", ("below", 8), inner, ONE), early) for early in (7, 6, 8)], [2, 4, 1])
        self.assertEqual([steps_of(("if", ("below", 8), ("plus", inner, LATE), ONE), early) for early in (7, 6, 8)],
                         [2, 4, 1])

    def test_both_branches_of_a_less(self):
        add, twice = ("plus", EARLY, ONE), ("times", ("plus", EARLY, EARLY), ONE)
        for one, other in ((add, twice), (twice, add)):
            self.assertEqual(steps_of(("if", ("less", LATE, ONE), one, other), 7), 3)
            self.assertEqual(steps_of(("if", ("less", one, LATE), other, LATE), 7), 3)
            self.assertEqual(steps_of(("if", ("less", LATE, one), LATE, other), 7), 3)
            self.assertEqual(steps_of(("if", ("less", LATE, add), one, other), 7), 4)

    def test_moves(self):
        for move in range(-5, 6):
            for early in (0, 7):
                self.assertEqual(steps_of(("call", "zero", ("move", move), ()), early), move != 0)
        for given in (0, 7, 8):
            self.assertEqual(steps_of(("call", "zero", ("give", given), ()), 7), 0)

    def test_late_expressions(self):
        inner = ("call", "one", ("move", 1), (("plus", EARLY, ONE),))
        self.assertEqual(steps_of(("call", "two", ("move", -1), (inner, ("plus", EARLY, ONE))), 7), 4)
        self.assertEqual(steps_of(("call", "two", ("give", 1), (inner, ("plus", LATE, ONE))), 7), 2)

    def test_none_where_staging_never_ends(self):
        for early in (5, 1000):
            self.assertIsNone(staging_steps(UP, "go", early))

    def test_most_points(self):
        self.assertEqual(staging_steps(DOWN, "down", 299), 599)
        with self.assertRaises(TooMany) as caught:
            staging_steps(DOWN, "down", 300)
        self.assertEqual(caught.exception.most, 300)

    def test_random_programs(self):
        rng = random.Random(15)
        for _ in range(600):
            program = rng.choice((random_program, random_walker))(rng)
            if is_program(program):
                name, early = rng.choice(program)[0], rng.choice((0, 1, 2, 5, 9))
                met = points(program, name, early)
                expected = None if met is None else sum(staged_point(program, point)[2] for point in met)
                if met is None or len(met) <= 300:
                    with self.subTest(program=program, name=name, early=early):
                        self.assertEqual(staging_steps(program, name, early), expected)


class PaysFromTest(unittest.TestCase):
    def test_one_run(self):
        for early in (0, 1, 3, 100):
            self.assertEqual(pays_from(POWER, "pow", early, (2,), 1000), 1)

    def test_a_run_with_more_early_steps(self):
        call = ("call", "pow", ("move", 0), (LATE,))
        program = (("f", 1, ("plus", call, call)),) + POWER
        self.assertEqual(pays_from(program, "f", 3, (2,), 100), 1)

    def test_several_runs(self):
        # Staging makes 7 early steps for pow and one for the test, a run with the late number 0 just that one.
        for late, steps, expected in ((0, 1, 8), (1, 8, 1)):
            program = (("f", 1, ("if", ("below", 9), ("if", ("less", LATE, ONE), ONE, ("call", "pow", ("move", 0), (LATE,))),
                                 LATE)),) + POWER
            self.assertEqual(run(program, "f", 3, (late,), 100)[1], steps)
            self.assertEqual(pays_from(program, "f", 3, (late,), 100), expected)

    def test_runs_that_are_no_fewer_exactly_or_by_some(self):
        # A run makes as many early steps as its branch; staging makes these and the others' ones.
        for other, expected in ((0, 1), (1, 2), (2, 2), (3, 3), (4, 3), (5, 4), (28, 15)):
            body = ("if", ("less", LATE, ONE), chain(3, EARLY), chain(other + 1, EARLY))
            with self.subTest(other):
                self.assertEqual(pays_from((("f", 1, body),), "f", 3, (0,), 1), expected)

    def test_none_without_early_steps(self):
        self.assertIsNone(pays_from((("f", 1, LATE),), "f", 3, (0,), 100))
        body = ("if", ("less", LATE, ONE), EARLY, ("plus", EARLY, ONE))
        self.assertIsNone(pays_from((("f", 1, body),), "f", 3, (0,), 100))
        self.assertEqual(pays_from((("f", 1, body),), "f", 3, (1,), 100), 1)

    def test_none_without_an_answer(self):
        self.assertIsNone(pays_from(POWER, "pow", 3, (2,), 5))
        self.assertEqual(pays_from(POWER, "pow", 3, (2,), 6), 1)
        ever = (("f", 0, ("plus", ONE, ("call", "f", ("move", -1), ()))),)
        self.assertIsNone(pays_from(ever, "f", 3, (), 100000))

    def test_none_where_staging_never_ends(self):
        self.assertEqual(run(EVER, "go", 3, (2,), 100), (5, 2, 7))
        self.assertIsNone(pays_from(EVER, "go", 3, (2,), 100))

    def test_too_many_whatever_the_run(self):
        self.assertEqual(pays_from(DOWN, "down", 299, (), 1000), 1)
        body = ("if", ("less", LATE, ONE), ONE, ("call", "down", ("move", 0), ()))
        program = (("f", 1, body),) + DOWN
        self.assertIsNone(pays_from(program, "f", 298, (0,), 1000))
        self.assertIsNone(pays_from(program, "f", 298, (1,), 1))
        for lates, fuel in (((0,), 1000), ((1,), 1000), ((1,), 1)):
            with self.assertRaises(TooMany) as caught:
                pays_from(program, "f", 299, lates, fuel)
            self.assertEqual(caught.exception.most, 300)

    def test_random_programs(self):
        rng = random.Random(16)
        found = {}
        for _ in range(400):
            program = random_program(rng, rng.randint(4, 7))
            if not is_program(program):
                continue
            name, many, _ = rng.choice(program)
            early, fuel = rng.choice((0, 1, 2, 5, 9)), rng.choice((3, 20, 500))
            lates = tuple(rng.choice((0, 1, 2, 5)) for _ in range(many))
            met = points(program, name, early)
            if met is not None and len(met) > 300:
                continue
            answer, steps = run(program, name, early, lates, fuel), staging_steps(program, name, early)
            expected = None
            if answer is not None and steps is not None and answer[1]:
                expected = next(n for n in range(1, 10000) if n * answer[1] >= steps)
            found[expected] = True
            with self.subTest(program=program, name=name, early=early, lates=lates, fuel=fuel):
                self.assertEqual(pays_from(program, name, early, lates, fuel), expected)
        self.assertGreater(len(found), 5)


class WrongArgumentsTest(unittest.TestCase):
    start = (Argument(POWER, (), BadProgram), Argument("pow", "other", BadName, is_good("pow")),
             Argument(3, 1001, BadNumber, is_number(1000)))

    def test_points(self):
        point = Argument(("pow", 1), ("other", 1), BadPoint, is_good(("pow", 1)))
        check_arguments(self, body_of, self.start[0], point)
        for wrong in (("pow", -1), ("pow", 10000001), ("pow", True), ("pow", None), ("pow", "1"), ("po", 1), (None, 1),
                      (["pow"], 1), ("pow",), ("pow", 1, 1), ["pow", 1], "pow", (("pow", 1),)):
            self.assertRaises(BadPoint, body_of, POWER, wrong)

    def test_stagings(self):
        for function in (staged, staging_steps):
            check_arguments(self, function, *self.start)
            for early in (-1, 1001, 10000000, True, False, None, "3", (3,), [3], ("pow", 3)):
                self.assertRaises(BadNumber, function, POWER, "pow", early)

    def test_runs(self):
        lates, fuel = Argument((2,), (1, 2), BadLates, is_good((0,))), Argument(100, 100001, BadFuel, is_number(100000))
        check_arguments(self, pays_from, *self.start, lates, fuel)
        for wrong in ((), (1, 2), [2], (-1,), (1000001,), (True,), (None,), 2, "2", None):
            self.assertRaises(BadLates, pays_from, POWER, "pow", 3, wrong, 100)
        for wrong in (-1, 100001, True, None, "100", (100,), {}):
            self.assertRaises(BadFuel, pays_from, POWER, "pow", 3, (2,), wrong)

    def test_too_many_comes_after_all_others(self):
        self.assertRaises(BadLates, pays_from, DOWN, "down", 1000, (1,), 100)
        self.assertRaises(BadFuel, pays_from, DOWN, "down", 1000, (), -1)
        self.assertRaises(BadFuel, pays_from, DOWN, "down", 1000, (), None)
        self.assertRaises(TooMany, pays_from, DOWN, "down", 1000, (), 100)
        self.assertRaises(TooMany, pays_from, DOWN, "down", 1000, (), 0)

    def test_never_ending_stagings_have_wrong_arguments_too(self):
        self.assertRaises(BadLates, pays_from, UP, "go", 5, (1,), 100)
        self.assertRaises(BadFuel, pays_from, UP, "go", 5, (), True)
        self.assertIsNone(pays_from(UP, "go", 5, (), 100))

    def test_arguments_are_not_changed(self):
        program = copy.deepcopy(FOUR)
        staged(program, "first", 3), body_of(program, ("first", 3)), staging_steps(program, "first", 3)
        pays_from(program, "first", 3, (2, 4), 100)
        self.assertEqual(program, FOUR)


if __name__ == "__main__":
    unittest.main()
