import random
import unittest

from staged.descents import point_ends
from staged.programs import is_program
from staged.walks import common, ground, rise
from tests.samples import POWER, random_walker
from tests.stager import points_met

NOTHING = ("number", 0)
UP = (("go", 0, ("if", ("below", 5), NOTHING, ("call", "go", ("move", 1), ()))),)


def call(name, number):
    return ("call", name, ("move", number), ())


def ends_slowly(program, point):
    """Tell whether staging a point ends, by following all points up to a bound that only endless walks get above."""
    bound = max(point[1], ground(program)) + len(program) * common(program) * rise(program)
    return points_met(program, point, bound) is not None


class PointEndsTest(unittest.TestCase):
    def check(self, program, name, ending, endless):
        for early in ending:
            self.assertIs(point_ends(program, (name, early)), True, early)
        for early in endless:
            self.assertIs(point_ends(program, (name, early)), False, early)

    def test_ordinary_ones(self):
        self.check(POWER, "pow", (0, 1, 5, 1000, 1001, 9999999, 10000000), ())
        self.check(UP, "go", (0, 4), (5, 6, 1000, 1001, 10000000))

    def test_what_a_walk_down_comes_to(self):
        # Down by 3 from wherever it is, and up for ever from 1 alone.
        program = (("f", 0, ("if", ("below", 3), ("if", ("below", 2), ("if", ("below", 1), NOTHING, call("go", 5)),
                                                  NOTHING),
                             call("f", -3))),) + UP
        self.check(program, "f", (0, 2, 3, 5, 6, 9999999, 9999998), (1, 4, 7, 100, 9999997, 10000000))

    def test_several_ways_down(self):
        # By 5 or by 3, so that no number of 8 or more is without a way to 1.
        program = (("f", 0, ("if", ("below", 5), ("if", ("below", 2), ("if", ("below", 1), NOTHING, call("go", 5)),
                                                  ("if", ("below", 3), NOTHING,
                                                   ("if", ("below", 4), NOTHING, NOTHING))),
                             ("plus", call("f", -5), call("f", -3)))),) + UP
        self.check(program, "f", (0, 2, 3, 5, 8, 10), (1, 6, 9, 11, 12, 14, 500, 9999998, 9999999, 10000000))

    def test_rests(self):
        # Numbers that leave 2 stay as they are, those that leave 1 climb, and 0 and 3 go down to others.
        program = (("f", 0, ("if", ("below", 9), NOTHING, ("if", ("rest", 4, 2), call("f", 0), (
            "if", ("rest", 4, 1), call("f", 4), ("if", ("rest", 4, 0), call("f", -2), call("f", -4)))))),)
        self.check(program, "f", (10, 11, 12, 14, 15, 9999998, 9999999, 10000000), (9, 13, 9999993, 9999997))

    def test_a_climb_that_falls_again(self):
        program = (("f", 0, ("if", ("below", 20), NOTHING, ("if", ("rest", 6, 0), call("f", 5),
            ("if", ("rest", 6, 5), call(
            "f", 5), ("if", ("rest", 6, 4), call("f", 5), ("if", ("rest", 6, 3), call("f", -5), call("f", -1))))))),)
        for early in (0, 19, 20, 100, *range(1000, 1012)):
            self.assertIs(point_ends(program, ("f", early)), ends_slowly(program, ("f", early)), early)

    def test_given_numbers_far_below(self):
        for given, expected in ((4, True), (5, False), (1000, False)):
            program = (("f", 0, ("if", ("rest", 5, 1), ("call", "go", ("give", given), ()),
                                 ("if", ("below", 9), NOTHING, call(
                "f", -1)))),) + UP
            self.assertIs(point_ends(program, ("f", 10000000)), expected)
            self.assertIs(point_ends(program, ("f", 7)), True)

    def test_random_programs(self):
        rng = random.Random(20)
        found = [0, 0]
        for _ in range(250):
            program = random_walker(rng)
            if is_program(program):
                point = (rng.choice(program)[0], rng.choice((0, 20, 60, 150, 400)) + rng.randrange(70))
                expected = ends_slowly(program, point)
                found[expected] += 1
                with self.subTest(program=program, point=point):
                    self.assertIs(point_ends(program, point), expected)
        self.assertGreater(min(found), 40)


if __name__ == "__main__":
    unittest.main()
