import inspect
import random
import unittest

from staged import halting
from staged.errors import BadName, BadNumber, BadProgram
from staged.halting import climb, ending_numbers, ends, points, shows_climb, shows_closed
from staged.walks import common, ground, height, next_points
from tests.arguments import Argument, check_arguments, check_order, check_unchanged, check_values, is_good, is_number
from tests.samples import FOUR, POWER, VALUES, nested, random_walker, replacements
from tests.stager import is_climb, is_closed, points_met

EARLY = ("early",)
NOTHING = ("number", 0)
UP = (("go", 0, ("if", ("below", 5), NOTHING, ("call", "go", ("move", 1), ()))),)
STAY = (("stay", 0, ("plus", ("call", "stay", ("move", 0), ()), ("call", "stay", ("move", 1), ()))),)


def call(name, number):
    return ("call", name, ("move", number), ())


# Up by 5 and down by 3 in turn, so that walks have points of two functions.
TURNS = (("f", 0, ("if", ("below", 10), NOTHING, call("g", 5))), ("g", 0, call("f", -3)))
# Above the ground only numbers that leave 1 go on, up by 2 to those that leave 3, and from there to 1 again.
LEAVES = (("f", 0, ("if", ("below", 6), NOTHING, ("if", ("rest", 4, 1), call("f", 2),
                                                 ("if", ("rest", 4, 3), call("f", 2), NOTHING)))),)


def go(*numbers):
    """Return points of go with these early numbers."""
    return tuple(("go", number) for number in numbers)


class EndsTest(unittest.TestCase):
    def test_interface(self):
        shapes = {"ends": "(program, name, early)", "points": "(program, name, early)",
                  "climb": "(program, name, early)", "shows_climb": "(program, name, early, value)",
                  "shows_closed": "(program, name, early, value)", "ending_numbers": "(program, name, most)"}
        for name, shape in shapes.items():
            with self.subTest(name):
                self.assertEqual(str(inspect.signature(getattr(halting, name))), shape)
                self.assertEqual(getattr(halting, name).__module__, "staged.halting")

    def test_stagings_that_end(self):
        self.assertEqual(points(POWER, "pow", 0), (("pow", 0),))
        self.assertEqual(points(POWER, "pow", 3), (("pow", 0), ("pow", 1), ("pow", 2), ("pow", 3)))
        self.assertEqual(points(POWER, "pow", 1000), tuple(("pow", early) for early in range(1001)))
        for early in (0, 1, 3, 1000):
            self.assertIs(ends(POWER, "pow", early), True)

    def test_stagings_that_never_end(self):
        for early in (5, 6, 100, 1000):
            self.assertIs(ends(UP, "go", early), False)
            self.assertIsNone(points(UP, "go", early))
        for early in (0, 1, 4):
            self.assertIs(ends(UP, "go", early), True)
            self.assertEqual(points(UP, "go", early), go(early))

    def test_points_are_ascending(self):
        self.assertEqual(points(FOUR, "first", 3), (("first", 3), ("second", 7), ("third", 8)))
        self.assertEqual(points(FOUR, "fourth", 12), (("fourth", 0), ("fourth", 2), ("fourth", 7), ("fourth", 12)))
        program = (("z", 0, call("g", 1)), ("g", 0, ("call", "h", ("give", 1), ())), ("h", 0, call("z", -1)))
        self.assertEqual(points(program, "z", 7), (("g", 1), ("g", 8), ("h", 1), ("z", 0), ("z", 7)))

    def test_points_that_call_themselves(self):
        program = (("f", 0, call("f", 0)), ("g", 0, call("f", -2)))
        self.assertEqual(points(program, "f", 1000), (("f", 1000),))
        self.assertEqual(points(program, "g", 1), (("f", 0), ("g", 1)))
        self.assertEqual(points((("f", 0, call("f", -1)),), "f", 2), (("f", 0), ("f", 1), ("f", 2)))

    def test_branches_of_less_are_both_followed(self):
        body = ("if", ("less", ("late", 0), ("number", 1)), ("call", "low", ("give", 2), ()), ("number", 1))
        for low, expected in ((call("low", -1), True), (call("low", 1), False)):
            self.assertIs(ends((("f", 1, body), ("low", 0, low)), "f", 0), expected)
            other = ("if", body[1], body[3], body[2])
            self.assertIs(ends((("f", 1, other), ("low", 0, low)), "f", 0), expected)

    def test_calls_within_late_expressions_are_met(self):
        for number, expected in ((-1, True), (1, False)):
            body = ("call", "one", ("give", 0), (("call", "one", ("give", 0), (call("low", 0),)),))
            program = (("f", 0, body), ("one", 1, ("late", 0)), ("low", 0, call("low", number)))
            self.assertIs(ends(program, "f", 3), expected)

    def test_a_function_that_is_not_met_plays_no_part(self):
        program = UP + (("f", 0, call("f", -1)),)
        self.assertEqual(points(program, "f", 1), (("f", 0), ("f", 1)))
        self.assertIs(ends(program, "go", 5), False)

    def test_high_points_that_come_down_again(self):
        # From 20 on up by 5 to each next number that 6 does not divide, and from there down for ever.
        body = ("if", ("rest", 6, 0), call("down", -1), call("f", 5))
        program = (("f", 0, ("if", ("below", 20), NOTHING, body)), ("down", 0, ("if", ("below", 20), NOTHING,
                                                                                call("down", -1))))
        self.assertEqual(points(program, "f", 25), tuple(("down", n) for n in range(19, 30)) + (("f", 25), ("f", 30)))
        self.assertEqual(len(points(program, "f", 1000)), 1001 + 5)
        self.assertEqual(max(early for _, early in points(program, "f", 995)), 1020)

    def test_a_rise_right_to_the_height_ends(self):
        # Each of two functions goes up once, the second one from 1 to 2: as high as the height of 0 tells.
        program = (("f", 0, ("if", ("below", 1), call("g", 1), NOTHING)), ("g", 0, ("if", ("below", 2), NOTHING,
                                                                                   NOTHING)))
        self.assertEqual(height(program, 2), 4)
        self.assertTrue(ends(program, "f", 0))
        program = (("f", 0, call("g", 1)), ("g", 0, call("h", 1)), ("h", 0, NOTHING))
        self.assertEqual(height(program, 7), 10)
        self.assertEqual(points(program, "f", 7), (("f", 7), ("g", 8), ("h", 9)))
        self.assertEqual(points(program, "f", 1000), (("f", 1000), ("g", 1001), ("h", 1002)))

    def test_one_below_the_height_there_may_be_no_climb(self):
        # Of 60 numbers in a row all but one go up by 1: staging comes up as far as it can and ends.
        stop = ("if", ("rest", 4, 0), ("if", ("rest", 5, 0), ("if", ("rest", 3, 0), NOTHING, call("f", 1)),
                                       call("f", 1)), call("f", 1))
        program = (("f", 0, stop),)
        self.assertEqual((ground(program), common(program), height(program, 1)), (0, 60, 61))
        self.assertEqual(points(program, "f", 1), tuple(("f", early) for early in range(1, 61)))
        self.assertEqual(points(program, "f", 61), tuple(("f", early) for early in range(61, 121)))
        self.assertEqual(points(program, "f", 1000), tuple(("f", early) for early in range(1000, 1021)))

    def test_random_programs(self):
        rng = random.Random(6)
        found = [0, 0]
        for _ in range(300):
            program = random_walker(rng)
            name, _, _ = rng.choice(program)
            early = rng.choice((0, 1, 2, 5, 9, 30))
            met = points_met(program, (name, early), 1000)
            found[met is None] += 1
            with self.subTest(program=program, name=name, early=early):
                self.assertIs(ends(program, name, early), met is not None)
                self.assertEqual(points(program, name, early), None if met is None else tuple(sorted(met)))
                if met is not None:
                    self.assertLessEqual(max(early for _, early in met), height(program, early))
        self.assertGreater(min(found), 50)


class ClimbTest(unittest.TestCase):
    def check_climb(self, program, name, early):
        """Hold a climb against the oracle, and against shows_climb."""
        value = climb(program, name, early)
        with self.subTest(program=program, name=name, early=early):
            self.assertTrue(is_climb(program, (name, early), value, ground(program), common(program)))
            self.assertIs(shows_climb(program, name, early, value), True)
            self.assertIs(shows_climb(program, name, early, None), False)

    def test_none_where_staging_ends(self):
        for program, name, early in ((POWER, "pow", 3), (UP, "go", 4), (FOUR, "first", 1000)):
            self.assertIsNone(climb(program, name, early))
            self.assertIs(shows_climb(program, name, early, None), True)

    def test_climbs(self):
        for program, name, early in ((UP, "go", 5), (UP, "go", 1000), (STAY, "stay", 0), (TURNS, "f", 10),
                                     (TURNS, "g", 13), (LEAVES, "f", 9), (LEAVES, "f", 7)):
            self.check_climb(program, name, early)

    def test_a_walk_that_falls_below_the_ground_first(self):
        program = (("f", 0, ("if", ("below", 90), call("g", 5), call("f", -5))), ("g", 0, call("g", 5)))
        self.check_climb(program, "f", 1000)
        self.check_climb(program, "f", 0)
        program = (("f", 0, ("if", ("rest", 6, 5), ("call", "g", ("give", 40), ()), call("f", 5))), ("g", 0, call("g", 1)))
        self.check_climb(program, "f", 900)

    def test_a_long_walk(self):
        # 1000 points down, and up again past them all.
        down = (("f", 0, ("if", ("below", 1), call("g", 1), call("f", -1))), ("g", 0, call("g", 1)))
        self.check_climb(down, "f", 1000)
        # Up by 1 at each number but where 60 goes in, where it is up by another function.
        names = ("fa", "fb", "fc", "fd", "fe", "ff", "fg", "fh")
        program = tuple((name, 0, ("if", ("rest", 4, 0), ("if", ("rest", 5, 0), ("if", ("rest", 3, 0), call(after, 1), (
            call(name, 1))), call(name, 1)), call(name, 1))) for name, after in zip(names, names[1:] + names[:1]))
        self.check_climb(program, "fa", 1)
        self.check_climb(program, "fh", 1000)

    def test_random_programs(self):
        rng = random.Random(7)
        many = 0
        for _ in range(600):
            program = random_walker(rng)
            name, early = rng.choice(program)[0], rng.choice((0, 1, 2, 5, 9, 30, 1000))
            if ends(program, name, early):
                self.assertIsNone(climb(program, name, early))
            else:
                self.check_climb(program, name, early)
                many += 1
        self.assertGreater(many, 100)


class ShowsClimbTest(unittest.TestCase):
    def all_are(self, program, name, early, values, expected=True):
        for number, value in enumerate(values):
            with self.subTest(early=early, number=number):
                self.assertIs(shows_climb(program, name, early, value), expected)

    def none_is(self, program, name, early, values):
        self.all_are(program, name, early, values, False)

    def test_right_ones(self):
        walk = go(6, 7, 8)
        self.all_are(UP, "go", 6, [(walk, one, other) for one in range(3) for other in range(one + 1, 3)])
        self.all_are(UP, "go", 6, [(go(6, 7), 0, 1), (go(*range(6, 500)), 0, 493), (go(*range(6, 500)), 492, 493)])

    def test_the_indexes_stand_in_the_walk(self):
        walk = go(6, 7, 8)
        self.all_are(UP, "go", 6, [(walk, 1, 2)])
        self.none_is(UP, "go", 6, [(walk, one, other) for one, other in
                                   ((1, 3), (2, 3), (3, 4), (0, 0), (1, 1), (2, 1), (1, 0), (-1, 1), (-3, -1), (0, -1),
                                    (-1, 0), (-2, -1), (0, 10 ** 30), (-(10 ** 30), 2))])
        self.none_is(UP, "go", 6, [((), 0, 1), ((), 0, 0), (go(6), 0, 0), (go(6), 0, 1), (go(6), -1, 0)])

    def test_indexes_do_not_count_from_the_end(self):
        program = (("go", 0, ("plus", call("go", 1), call("go", -1))),)
        walk = go(9, 10, 11, 10, 9)
        self.all_are(program, "go", 9, [(walk, 0, 1), (walk, 0, 2), (walk, 1, 2)])
        self.none_is(program, "go", 9, [(walk, -1, 1), (walk, -1, 2), (walk, -5, 1), (walk, 0, -2), (walk, 0, -3)])

    def test_points_behind_the_second_play_no_part(self):
        program = (("go", 0, ("plus", call("go", 1), ("call", "go", ("give", 0), ()))),)
        self.assertEqual(ground(program), 0)
        self.all_are(program, "go", 6, [(go(6, 7, 0), 0, 1), (go(6, 7, 0, 1), 0, 1), (go(6, 0, 1, 2, 0), 2, 3)])
        self.none_is(program, "go", 6, [(go(6, 7, 0, 8), 0, 1), (go(6, 7, 0, 1, 2), 0, 3), (go(6, 7, 0), 1, 2)])

    def test_indexes_are_integers(self):
        walk = go(6, 7, 8)
        for wrong in (True, False, None, "0", "1", (), (0,), [1], {}, walk, nested(100000)):
            self.none_is(UP, "go", 6, [(walk, wrong, 2), (walk, 0, wrong), (walk, wrong, wrong)])
        self.none_is(UP, "go", 6, [(walk, False, True), (walk, False, 1), (walk, 0, True)])

    def test_points_above_the_ground(self):
        # A lone call goes up by 1 from everywhere, the ground is 5.
        program = (("go", 0, ("if", ("below", 5), call("go", 1), call("go", 1))),)
        self.assertEqual((ground(program), common(program)), (5, 1))
        walk = go(3, 4, 5, 6, 7)
        for one in range(5):
            for other in range(one + 1, 5):
                with self.subTest(one=one, other=other):
                    self.assertIs(shows_climb(program, "go", 3, (walk, one, other)), one == 3)
        self.none_is(program, "go", 5, [(go(5, 6), 0, 1)])
        self.all_are(program, "go", 6, [(go(6, 7), 0, 1)])

    def test_points_between_are_above_the_ground(self):
        # Down from above to the ground, or not so far, and up again.
        program = (("f", 0, ("plus", call("g", -3), call("g", -2))), ("g", 0, ("if", ("below", 5), EARLY, call("f", 5))))
        self.assertEqual((ground(program), common(program)), (5, 1))
        walk = (("f", 8), ("g", 5), ("f", 10), ("g", 8), ("f", 13))
        self.none_is(program, "f", 8, [(walk, 0, 2), (walk, 0, 4)])
        self.all_are(program, "f", 8, [(walk, 2, 4), (walk + (("g", 10),), 3, 5)])
        self.all_are(program, "f", 8, [((("f", 8), ("g", 6), ("f", 11)), 0, 2)])

    def test_points_of_one_function(self):
        walk = (("f", 10), ("g", 15), ("f", 12), ("g", 17), ("f", 14))
        self.assertEqual((ground(TURNS), common(TURNS)), (10, 1))
        for one in range(5):
            for other in range(one + 1, 5):
                with self.subTest(one=one, other=other):
                    self.assertIs(shows_climb(TURNS, "f", 10, (walk, one, other)), (one, other) in ((1, 3), (2, 4)))

    def test_the_second_number_is_greater(self):
        walk = (("stay", 3), ("stay", 3), ("stay", 4), ("stay", 4))
        for one in range(4):
            for other in range(one + 1, 4):
                self.assertIs(shows_climb(STAY, "stay", 3, (walk, one, other)), one < 2 <= other)
        program = (("f", 0, ("plus", call("f", 1), call("f", -1))),)
        walk = (("f", 9), ("f", 8), ("f", 7), ("f", 8), ("f", 9), ("f", 10))
        self.none_is(program, "f", 9, [(walk, 0, 1), (walk, 0, 2), (walk, 0, 4), (walk, 1, 3)])
        self.all_are(program, "f", 9, [(walk, 0, 5), (walk, 1, 4), (walk, 2, 3)])

    def test_greater_by_a_multiple_of_common(self):
        self.assertEqual((ground(LEAVES), common(LEAVES)), (6, 4))
        walk = tuple(("f", early) for early in (7, 9, 11, 13, 15))
        for one in range(5):
            for other in range(one + 1, 5):
                self.assertIs(shows_climb(LEAVES, "f", 7, (walk, one, other)), (other - one) % 2 == 0)

    def test_each_point_is_called_by_the_one_before(self):
        self.none_is(UP, "go", 6, [(go(6, 8), 0, 1), (go(6, 7, 9), 0, 1), (go(6, 6, 7), 0, 2), (go(6, 7, 7), 0, 2),
                                   (go(6, 7, 6, 7), 0, 3), (go(6, 5, 6, 7), 2, 3), (go(6, 7, 10 ** 7 + 1), 0, 1)])

    def test_the_walk_begins_with_the_staging(self):
        self.none_is(UP, "go", 6, [(go(7, 8), 0, 1), (go(5, 6, 7), 1, 2)])
        self.none_is(TURNS, "f", 15, [((("g", 15), ("f", 12), ("g", 17)), 0, 2)])
        self.all_are(TURNS, "g", 15, [((("g", 15), ("f", 12), ("g", 17)), 0, 2)])

    def test_longest_walks(self):
        stays = (("stay", 3),) * 29999
        self.all_are(STAY, "stay", 3, [(stays + (("stay", 4),), 0, 29999), (stays + (("stay", 4),), 29998, 29999)])
        self.none_is(STAY, "stay", 3, [(stays + (("stay", 4),) * 2, 0, 29999),
                                       ((("stay", 3),) + stays + (("stay", 4),), 0, 30000)])
        self.all_are(UP, "go", 5, [(go(*range(5, 30005)), 29998, 29999), (go(*range(5, 30005)), 1, 29999)])
        self.none_is(UP, "go", 5, [(go(*range(5, 30006)), 29998, 29999)])

    def test_none_is_right_where_staging_ends(self):
        self.all_are(POWER, "pow", 3, [None])
        self.none_is(UP, "go", 6, [None])
        self.all_are(UP, "go", 4, [None])
        self.none_is(UP, "go", 4, [False, (), 0, (go(4), 0, 0), (None, None, None), (go(4, 5), 0, 1)])

    def test_values_of_all_kinds(self):
        for program, name, early in ((UP, "go", 6), (POWER, "pow", 3)):
            self.none_is(program, name, early, [value for value in VALUES if value is not None])
            walk = go(6, 7)
            for value in VALUES:
                self.none_is(program, name, early, [(value, 0, 1), (walk, value, 1) if value != 0 else None or (0,),
                                                    (walk, 0, value) if value != 1 else (0,), (value,) * 3,
                                                    ((value, value), 0, 1), ((walk[0], value), 0, 1),
                                                    ((value, walk[1]), 0, 1), (walk, 0, 1, value),
                                                    ((("go", 6), ("go", value)), 0, 1) if value != 7 else (0,),
                                                    ((("go", 6), (value, 7)), 0, 1)])
        walk = go(6, 7)
        self.none_is(UP, "go", 6, [[walk, 0, 1], (list(walk), 0, 1), (walk, 0), (walk,), walk, {0: walk}, (walk, 0, 1, 2),
                                   ((["go", 6], ("go", 7)), 0, 1), ((("go", 6), ["go", 7]), 0, 1), (("go", 6), 0, 1),
                                   ((("go", 6, 6), ("go", 7)), 0, 1), ((("go",), ("go", 7)), 0, 1)])

    def test_one_thing_changed(self):
        others = (None, True, 0, 1, 2, 5, 6, 7, 8, 9, "go", "f", "g", (), [], {}, ("go", 7), ("f", 12), go(6, 7))
        for program, start, value in ((UP, ("go", 6), (go(6, 7, 8), 0, 2)), (UP, ("go", 1), (go(1, 2), 0, 1)),
                                      (TURNS, ("f", 10), ((("f", 10), ("g", 15), ("f", 12), ("g", 17)), 1, 3)),
                                      (LEAVES, ("f", 7), (tuple(("f", early) for early in (7, 9, 11, 13)), 0, 2)),
                                      (STAY, ("stay", 0), ((("stay", 0), ("stay", 1), ("stay", 2)), 1, 2))):
            low, step = ground(program), common(program)
            for changed in replacements(value, others):
                expected = changed is None and points_met(program, start, 1000) is not None or (
                    is_climb(program, start, changed, low, step))
                with self.subTest(start=start, changed=changed):
                    self.assertIs(shows_climb(program, *start, changed), expected)


class ShowsClosedTest(unittest.TestCase):
    def check_values(self, program, name, early, values, expected):
        for number, value in enumerate(values):
            with self.subTest(early=early, number=number):
                self.assertIs(shows_closed(program, name, early, value), expected)

    def test_right_ones(self):
        for program, name, early in ((POWER, "pow", 0), (POWER, "pow", 1), (POWER, "pow", 1000), (FOUR, "first", 3),
                                     (UP, "go", 4)):
            self.check_values(program, name, early, [points(program, name, early)], True)

    def test_other_points_may_stand_there_if_all_are_closed(self):
        self.check_values(POWER, "pow", 1, [tuple(("pow", early) for early in range(many)) for many in (2, 3, 50)], True)
        self.check_values(UP, "go", 4, [go(3, 4), go(0, 4), go(0, 1, 2, 3, 4)], True)
        self.check_values(UP, "go", 4, [go(4, 5), go(4, 6), go(4, 5, 6), go(4, 10000000)], False)
        self.check_values(POWER, "pow", 1, [(("pow", 0), ("pow", 1), ("pow", 3))], False)

    def test_the_staging_stands_there(self):
        self.check_values(POWER, "pow", 2, [(), (("pow", 0),), (("pow", 0), ("pow", 1))], False)
        self.check_values(UP, "go", 4, [(), go(3), go(0, 1, 2, 3)], False)

    def test_all_that_is_called_stands_there(self):
        whole = points(FOUR, "fourth", 12)
        self.check_values(FOUR, "fourth", 12, [whole], True)
        self.check_values(FOUR, "fourth", 12, [whole[:at] + whole[at + 1:] for at in range(len(whole))], False)
        whole = points(FOUR, "first", 3)
        self.check_values(FOUR, "first", 3, [whole[:at] + whole[at + 1:] for at in range(len(whole))], False)

    def test_points_are_ascending_and_unlike(self):
        self.check_values(POWER, "pow", 1, [(("pow", 1), ("pow", 0)), (("pow", 0), ("pow", 0), ("pow", 1)),
                                            (("pow", 0), ("pow", 1), ("pow", 1))], False)
        self.check_values(FOUR, "first", 3, [(("first", 3), ("third", 8), ("second", 7))], False)

    def test_a_staging_without_end_is_never_closed(self):
        self.check_values(UP, "go", 6, [None, (), go(6), go(*range(6, 3000)), go(6, 10000000)], False)
        # What a point calls beyond the greatest point can stand nowhere.
        self.check_values(UP, "go", 4, [go(4, 9999999), go(4, 10000000), go(4, 10000000, 10000001)], False)
        stays = (("go", 0, ("if", ("below", 9), call("go", 5), call("go", 0))),)
        self.check_values(stays, "go", 0, [go(0, 5, 10), go(0, 5, 10, 10000000)], True)
        self.check_values(stays, "go", 0, [go(0, 5, 10, 10000001)], False)

    def test_values_of_all_kinds(self):
        for program, name, early in ((UP, "go", 4), (POWER, "pow", 1)):
            self.check_values(program, name, early, VALUES, False)
            for value in VALUES:
                self.check_values(program, name, early, [(value,), (("pow", 0), ("pow", 1), value), ((name, value),),
                                                         (("go", 4), value), (value, ("go", 4)), ((value, early),)], False)
        self.check_values(POWER, "pow", 1, [
            [("pow", 0), ("pow", 1)], (["pow", 0], ("pow", 1)), (("pow", False), ("pow", 1)), (("pow", 0), ("pow", True)),
            (("pow", 0), ("pow", 1), ("other", 1)), (("pow", 0), ("pow", 1, 1)), (("pow", -1), ("pow", 0), ("pow", 1)),
            (("other", 0), ("pow", 0), ("pow", 1)), {("pow", 0): 1, ("pow", 1): 1}, (("pow", 0), ("pow", 1), None),
            ((("pow", 0), ("pow", 1)),), ("pow", 1), "pow"], False)

    def test_one_thing_changed(self):
        others = (None, True, 0, 1, 2, 3, 7, 8, "pow", "first", "third", (), [], {}, ("pow", 1), ("third", 9),
                  (("pow", 0), ("pow", 1), ("pow", 2)))
        found = [0, 0]
        for program, start in ((POWER, ("pow", 1)), (FOUR, ("first", 3)), (UP, ("go", 4)), (FOUR, ("third", 1000))):
            for changed in replacements(points(program, *start), others):
                expected = is_closed(program, start, changed)
                found[expected] += 1
                with self.subTest(start=start, changed=changed):
                    self.assertIs(shows_closed(program, *start, changed), expected)
        self.assertGreater(min(found), 1)

    def test_random_programs(self):
        rng = random.Random(8)
        found = [0, 0]
        for _ in range(300):
            program = random_walker(rng)
            name, early = rng.choice(program)[0], rng.choice((0, 1, 2, 5))
            value = set(points(program, name, early) or [(name, early)])
            if rng.random() < 0.5:
                value ^= {(rng.choice(program)[0], rng.randint(0, 5))}
            if rng.random() < 0.5:
                value |= set(next_points(program, rng.choice(sorted(value)))) if value else set()
            value = tuple(sorted(value))
            expected = is_closed(program, (name, early), value)
            found[expected] += 1
            with self.subTest(program=program, name=name, early=early, value=value):
                self.assertIs(shows_closed(program, name, early, value), expected)
        self.assertGreater(min(found), 50)


class EndingNumbersTest(unittest.TestCase):
    def test_ordinary_ones(self):
        self.assertEqual(ending_numbers(UP, "go", 7), (0, 1, 2, 3, 4))
        self.assertEqual(ending_numbers(UP, "go", 3), (0, 1, 2, 3))
        self.assertEqual(ending_numbers(UP, "go", 4), (0, 1, 2, 3, 4))
        self.assertEqual(ending_numbers(UP, "go", 0), (0,))
        self.assertEqual(ending_numbers(STAY, "stay", 100), ())
        self.assertEqual(ending_numbers(POWER, "pow", 100), tuple(range(101)))
        self.assertEqual(ending_numbers(LEAVES, "f", 20), (0, 1, 2, 3, 4, 5, 6, 8, 10, 12, 14, 16, 18, 20))

    def test_the_most_itself_is_one_of_them(self):
        for most in (0, 1, 99, 100):
            self.assertEqual(ending_numbers(POWER, "pow", most), tuple(range(most + 1)))

    def test_random_programs(self):
        rng = random.Random(9)
        found = {}
        for _ in range(150):
            program = random_walker(rng)
            name, most = rng.choice(program)[0], rng.choice((0, 1, 5, 20, 100))
            expected = tuple(early for early in range(most + 1) if ends(program, name, early))
            found[len(expected)] = True
            with self.subTest(program=program, name=name, most=most):
                self.assertEqual(ending_numbers(program, name, most), expected)
        self.assertGreater(len(found), 7)


class WrongArgumentsTest(unittest.TestCase):
    start = (Argument(POWER, (), BadProgram), Argument("pow", "other", BadName, is_good("pow")),
             Argument(3, 1001, BadNumber, is_number(1000)))

    def test_stagings(self):
        for function in (ends, points, climb):
            check_arguments(self, function, *self.start)
            for early in (-1, 1001, 10000000, True, False, None, "3", (3,), [3], {3: 3}, ("pow", 3)):
                self.assertRaises(BadNumber, function, POWER, "pow", early)
            for name in ("po", "", None, 1, ("pow",), ["pow"], ("pow", 1)):
                self.assertRaises(BadName, function, POWER, name, 3)
            for early in (0, 1000):
                function(POWER, "pow", early)

    def test_showing(self):
        for function in (shows_climb, shows_closed):
            for value in VALUES:
                check_order(self, function, self.start, (value,))
            check_unchanged(self, function, self.start, ([("pow", [1])],))
            check_values(self, lambda *arguments: function(*arguments, None), self.start)

    def test_the_shown_value_is_not_changed(self):
        for function in (shows_climb, shows_closed):
            value = [[("go", 6), ("go", 7)], 0, {1: 2}]
            self.assertIs(function(UP, "go", 6, value), False)
            self.assertIs(function(UP, "go", 6, tuple(value)), False)
            self.assertEqual(value, [[("go", 6), ("go", 7)], 0, {1: 2}])

    def test_ending_numbers(self):
        check_arguments(self, ending_numbers, *self.start[:2], Argument(3, 101, BadNumber, is_number(100)))
        for most in (-1, 101, 1000, True, False, None, "3", (3,), [3], {3: 3}):
            self.assertRaises(BadNumber, ending_numbers, POWER, "pow", most)


if __name__ == "__main__":
    unittest.main()
