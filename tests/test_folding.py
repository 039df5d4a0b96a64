import copy
import inspect
import random
import unittest

from staged import folding
from staged.errors import BadName, BadNumber, BadPlain, BadPoint, BadProgram, NotEnding, TooMany
from staged.folding import alike, least, lots, plain_alike, plain_least, shows_unlike_path, unlike_path
from staged.plains import is_plain, plain_run
from staged.programs import is_program
from staged.staging import staged
from staged.walks import common, ground, rise
from tests.arguments import Argument, check_arguments, check_order, check_unchanged, check_values, is_good, is_number
from tests.folder import Graph, graph_of_points, key_of, least_of, least_plain, lots_of, renamed
from tests.samples import FOUR, POWER, VALUES, chain, nested, random_plain, random_program, random_walker
from tests.stager import points_met

LATE, EARLY, ONE, NOTHING = ("late", 0), ("early",), ("number", 1), ("number", 0)
TWO = (("f", 1, ("if", ("rest", 2, 0), ("call", "f", ("move", -1), (LATE,)), LATE)),)
UP = (("go", 0, ("if", ("below", 5), NOTHING, ("call", "go", ("move", 1), ()))),)
DOWN = (("down", 0, ("if", ("below", 1), NOTHING, ("call", "down", ("move", -1), ()))),)
LEAF = (("leaf", 0, NOTHING), ("mono", 1, NOTHING), ("duo", 2, NOTHING), ("same", 1, NOTHING), ("uno", 1, ONE))


def to(name, number, *handed):
    return ("call", name, ("give", number), handed)


def by(name, number, *handed):
    return ("call", name, ("move", number), handed)


def unlike(body, other, lates=1):
    """Return the smallest path for functions with these bodies and as many late numbers."""
    return unlike_path((("f", lates, body), ("g", lates, other)) + LEAF, ("f", 0), ("g", 0))


class AlikeTest(unittest.TestCase):
    def test_interface(self):
        shapes = {"alike": "(program, one, other)", "shows_unlike_path": "(program, one, other, value)",
                  "plain_alike": "(one, other)", "unlike_path": "(program, one, other)",
                  "lots": "(program, name, early)", "least": "(program, name, early)", "plain_least": "(plain)"}
        for name, shape in shapes.items():
            with self.subTest(name):
                self.assertEqual(str(inspect.signature(getattr(folding, name))), shape)
                self.assertEqual(getattr(folding, name).__module__, "staged.folding")

    def test_a_point_is_alike_itself(self):
        for program, point in ((POWER, ("pow", 7)), (TWO, ("f", 2)), (LEAF, ("leaf", 10000000))):
            self.assertIs(alike(program, point, point), True)
            self.assertIsNone(unlike_path(program, point, point))

    def test_early_numbers_alone_do_not_tell_points_apart(self):
        self.assertIs(alike(TWO, ("f", 1), ("f", 3)), True)
        self.assertIs(alike(TWO, ("f", 2), ("f", 4)), True)
        self.assertIs(alike(TWO, ("f", 1), ("f", 10000000 - 1)), True)

    def test_bodies_that_differ(self):
        for body, other in ((LATE, ONE), (ONE, NOTHING), (EARLY, ONE), (LATE, ("late", 1)),
                            (("plus", LATE, ONE), ("times", LATE, ONE)),
                            (("plus", LATE, ONE), ("plus", ONE, LATE)), (to("mono", 0, LATE), to("mono", 0, ONE)),
                            (to("mono", 0, LATE), LATE), (to("mono", 0, LATE), to("duo", 0, LATE, LATE)),
                            (to("leaf", 0), NOTHING),
                            (("if", ("less", LATE, ONE), LATE, ONE), ("if", ("less", ONE, LATE), LATE, ONE)),
                            (("if", ("less", LATE, ONE), LATE, ONE), ("if", ("less", LATE, ONE), ONE, LATE))):
            with self.subTest(body=body, other=other):
                self.assertEqual(unlike(body, other, 2), ())
                self.assertEqual(unlike(other, body, 2), ())
                self.assertIs(alike((("f", 2, body), ("g", 2, other)) + LEAF, ("f", 0), ("g", 0)), False)

    def test_bodies_that_differ_in_how_many_late_expressions_calls_have(self):
        self.assertEqual(unlike(to("duo", 0, to("mono", 0, LATE), ONE), to("mono", 0, to("duo", 0, LATE, ONE))), ())
        self.assertEqual(unlike(to("duo", 0, to("leaf", 0), ONE), to("mono", 0, to("mono", 0, ONE))), ())

    def test_bodies_that_are_the_same_when_staged(self):
        for body, other in ((EARLY, NOTHING), (("plus", EARLY, ONE), ONE), (("if", ("below", 1), LATE, ONE), LATE),
                            (to("mono", 0, EARLY), by("mono", 0, ("minus", ONE, ("number", 5)))),
                            (to("mono", 7, LATE), to("same", 3, LATE))):
            with self.subTest(body=body, other=other):
                self.assertIsNone(unlike(body, other))

    def test_functions_with_unlike_numbers_of_late_numbers(self):
        for one in range(5):
            for other in range(5):
                program = (("f", one, NOTHING), ("g", other, NOTHING))
                with self.subTest(one=one, other=other):
                    self.assertIs(alike(program, ("f", 3), ("g", 3)), one == other)
                    self.assertEqual(unlike_path(program, ("f", 3), ("g", 3)), None if one == other else ())

    def test_names_do_not_tell_functions_apart_but_what_they_call_does(self):
        self.assertIsNone(unlike(to("mono", 0, LATE), to("same", 9, LATE)))
        self.assertEqual(unlike(to("mono", 0, LATE), to("uno", 0, LATE)), (0,))

    def test_loops_unfold_alike(self):
        program = (("f", 0, by("f", 0)), ("g", 0, by("h", 0)), ("h", 0, to("g", 7)),
                   ("k", 0, ("plus", by("k", 0), by("k", 0))))
        for one in ("f", "g", "h"):
            for other in ("f", "g", "h"):
                self.assertIs(alike(program, (one, 3), (other, 7)), True)
            self.assertEqual(unlike_path(program, (one, 3), ("k", 3)), ())

    def test_points_that_differ_only_after_many_calls(self):
        for one, other in ((0, 1), (7, 8), (3, 299), (298, 299), (200, 299)):
            with self.subTest(one=one, other=other):
                self.assertIs(alike(DOWN, ("down", one), ("down", other)), False)
                self.assertEqual(unlike_path(DOWN, ("down", one), ("down", other)), (0,) * min(one, other))

    def test_the_smallest_of_the_shortest_paths(self):
        # The calls of a body in the order of the text: a call ahead of the calls in it.
        body = ("plus", to("mono", 0, to("mono", 0, LATE)), ("times", to("mono", 0, LATE), to("leaf", 0)))
        for index, changed in ((0, to("uno", 0, to("mono", 0, LATE))), (1, to("mono", 0, to("uno", 0, LATE)))):
            self.assertEqual(unlike(body, ("plus", changed, body[2])), (index,))
        self.assertEqual(unlike(body, ("plus", body[1], ("times", to("uno", 0, LATE), to("leaf", 0)))), (2,))
        self.assertEqual(unlike(body, ("plus", body[1], ("times", to("uno", 0, LATE), to("leaf", 9)))), (2,))
        self.assertEqual(unlike(body, ("plus", to("mono", 0, to("uno", 0, LATE)),
                                       ("times", to("uno", 0, LATE), body[2][2]))), (1,))

    def test_a_shorter_path_comes_before_a_smaller_one(self):
        program = (("f", 0, ("plus", to("g", 1), to("h", 1))), ("g", 0, ("if", ("below", 1), NOTHING, by("g", -1))),
                   ("h", 0, EARLY), ("k", 0, ("plus", to("leaf", 0), to("h", 2))), ("leaf", 0, to("h", 5)))
        self.assertEqual(unlike_path(program, ("f", 0), ("k", 0)), (1,))
        program = program[:3] + (("k", 0, ("plus", to("leaf", 0), to("h", 1))),) + program[4:]
        self.assertEqual(unlike_path(program, ("f", 0), ("k", 0)), (0, 0))

    def test_calls_in_tests_and_branches(self):
        for at in range(4):
            parts = [to("mono", 0, LATE) for _ in range(4)]
            body = ("if", ("less", parts[0], parts[1]), parts[2], parts[3])
            parts[at] = to("uno", 0, LATE)
            self.assertEqual(unlike(body, ("if", ("less", parts[0], parts[1]), parts[2], parts[3])), (at,))

    def test_deepest_bodies(self):
        self.assertIsNone(unlike(chain(30, to("leaf", 0)), chain(30, to("leaf", 1))))
        self.assertEqual(unlike(chain(30), chain(30, ONE)), ())
        calls = others = LATE
        for number in range(29):
            calls, others = to("mono", 0, calls), to("mono" if number else "uno", 0, others)
        self.assertEqual(unlike(calls, others), (28,))

    def test_random_programs(self):
        rng = random.Random(21)
        found = {}
        for _ in range(400):
            program = rng.choice((random_program, random_walker))(rng)
            if not is_program(program):
                continue
            pair = [(rng.choice(program)[0], rng.choice((0, 1, 2, 3, 5, 9, 12))) for _ in range(2)]
            bound = max(12, ground(program)) + len(program) * common(program) * rise(program)
            met = [points_met(program, point, bound) for point in pair]
            if None in met or max(map(len, met)) > 60:
                continue
            graph = graph_of_points(program, met[0] | met[1])
            keys = tuple(map(key_of, pair))
            like = keys not in graph.unlike_pairs()
            path = unlike_path(program, *pair)
            with self.subTest(program=program, pair=pair):
                self.assertIs(alike(program, *pair), like)
                self.assertIs(path is None, like)
                if path is not None and len(path) < 4 and max(map(len, graph.called.values())) < 7:
                    self.assertEqual(path, graph.smallest_path(*keys, len(path)))
                elif path is not None:
                    self.assertTrue(graph.is_path(*keys, path))
                self.assertIs(shows_unlike_path(program, *pair, path), True)
                self.assertIs(shows_unlike_path(program, *pair, None), like)
                for value in ((), (0,), (1,), (0, 0), (0, 1), (1, 0), (0, 0, 0)):
                    self.assertIs(shows_unlike_path(program, *pair, value), graph.is_path(*keys, value))
            found[path] = True
        self.assertGreater(len(found), 4)


class ShowsUnlikePathTest(unittest.TestCase):
    def test_right_ones(self):
        for one, other in ((0, 1), (3, 7), (299, 298)):
            path = unlike_path(DOWN, ("down", one), ("down", other))
            self.assertIs(shows_unlike_path(DOWN, ("down", one), ("down", other), path), True)

    def test_one_thing_changed(self):
        one, other = ("down", 3), ("down", 7)
        for value in ((), (0,), (0, 0), (0, 0, 0, 0), (0, 0, 1), (1, 0, 0), (0, -1, 0), (0, 0, False), (0, 0, True),
                      (False, 0, 0),
                      (0, 0, None), (0, 0, "0"), (0, 0, (0,)), [0, 0, 0], ((0, 0, 0),), (0, 0, 10 ** 30), {0: 0},
                      "000", 0, True,
                      (0, 0, nested(100000))):
            self.assertIs(shows_unlike_path(DOWN, one, other, value), False)
        self.assertIs(shows_unlike_path(DOWN, one, other, (0, 0, 0)), True)

    def test_longer_ones(self):
        # f calls itself and g itself, so a path may go round as often as it likes before it comes to where they differ.
        program = (("f", 0, ("plus", by("f", 0), to("leaf", 0))), ("g", 0, ("plus", by("g", 0), to("h", 0))),
                   ("h", 0, ONE)) + LEAF
        self.assertEqual(unlike_path(program, ("f", 0), ("g", 0)), (1,))
        for length in (1, 2, 3, 100, 999, 1000, 1001, 5000):
            with self.subTest(length):
                self.assertIs(shows_unlike_path(program, ("f", 0), ("g", 0), (0,) * (length - 1) + (1,)),
                              length <= 1000)
                self.assertIs(shows_unlike_path(program, ("f", 0), ("g", 0), (0,) * length), False)
        self.assertIs(shows_unlike_path(program, ("f", 0), ("g", 0), (1, 0)), False)

    def test_paths_through_bodies_that_differ(self):
        # What counts is that each index is one of a call in both bodies, and that the bodies come to in the end differ.
        program = (("f", 0, ("plus", by("f", 0), ONE)), ("g", 0, ("times", by("g", 0), ("times", by("g", 0), ONE))))
        for value in ((), (0,), (0, 0), (0,) * 1000):
            self.assertIs(shows_unlike_path(program, ("f", 0), ("g", 0), value), True)
        for value in ((1,), (0, 1), (0,) * 1001):
            self.assertIs(shows_unlike_path(program, ("f", 0), ("g", 0), value), False)

    def test_alike_points(self):
        self.assertIs(shows_unlike_path(TWO, ("f", 1), ("f", 3), None), True)
        self.assertIs(shows_unlike_path(TWO, ("f", 1), ("f", 2), None), False)
        for value in ((), (0,), (0, 0), False, 0, "", []):
            self.assertIs(shows_unlike_path(TWO, ("f", 1), ("f", 3), value), False)
        self.assertIs(shows_unlike_path(TWO, ("f", 1), ("f", 2), ()), True)

    def test_values_of_all_kinds(self):
        for value in VALUES:
            if value != ():
                self.assertIs(shows_unlike_path(TWO, ("f", 1), ("f", 2), value), False)
            if value is not None:
                self.assertIs(shows_unlike_path(TWO, ("f", 1), ("f", 3), value), False)

    def test_errors_of_other_arguments_come_whatever_the_value(self):
        for value in ((), None, (0,), [], {}, "x", nested(100000)):
            self.assertRaises(BadProgram, shows_unlike_path, (), ("f", 1), ("f", 2), value)
            self.assertRaises(BadPoint, shows_unlike_path, TWO, ("f", -1), ("f", 2), value)
            self.assertRaises(BadPoint, shows_unlike_path, TWO, ("f", 1), ("g", 2), value)
            self.assertRaises(NotEnding, shows_unlike_path, UP, ("go", 5), ("go", 1), value)
            self.assertRaises(NotEnding, shows_unlike_path, UP, ("go", 1), ("go", 5), value)
            self.assertRaises(TooMany, shows_unlike_path, DOWN, ("down", 1), ("down", 300), value)


class LotsTest(unittest.TestCase):
    def test_ordinary_ones(self):
        self.assertEqual(lots(TWO, "f", 2), ((("f", 1),), (("f", 2),)))
        self.assertEqual(lots(POWER, "pow", 3), tuple(((("pow", early),) for early in range(4))))
        self.assertEqual(lots(FOUR, "third", 4), ((("third", 4),),))

    def test_lots_ascend_and_are_ascending(self):
        body = ("if", ("below", 2), NOTHING, ("times", to("down", 100), ("plus", by("up", -1), by("down", -1))))
        program = (("up", 0, body), ("down", 0, ("if", ("below", 3), ONE, NOTHING)))
        expected = ((("down", 1), ("down", 2)), (("down", 3), ("down", 4), ("down", 5), ("down", 100), ("up", 1)),
                    (("up", 2),), (("up", 3),), (("up", 4),), (("up", 5),), (("up", 6),))
        self.assertEqual(lots(program, "up", 6), expected)
        self.assertEqual(lots_of(program, ("up", 6), 100), expected)

    def test_numbers_ascend_as_numbers(self):
        program = (("f", 0, ("plus", to("g", 10), to("g", 9))), ("g", 0, ("if", ("below", 10), ONE, NOTHING)))
        self.assertEqual(lots(program, "f", 0), ((("f", 0),), (("g", 9),), (("g", 10),)))

    def test_none_where_staging_never_ends(self):
        for early in (5, 6, 1000):
            self.assertIsNone(lots(UP, "go", early))
            self.assertIsNone(least(UP, "go", early))

    def test_most_points(self):
        self.assertEqual(lots(DOWN, "down", 299), tuple((("down", early),) for early in range(300)))
        self.assertEqual(least(DOWN, "down", 299), staged(DOWN, "down", 299))
        same = (("f", 0, ("if", ("below", 1), by("f", 0), by("f", -1))),)
        self.assertEqual(lots(same, "f", 299), (tuple(("f", early) for early in range(300)),))
        self.assertEqual(least(same, "f", 299), (("f_0", 0, ("call", "f_0", ())),))
        for function in (lots, least):
            for program, name in ((DOWN, "down"), (same, "f")):
                for early in (300, 301, 1000):
                    with self.assertRaises(TooMany) as caught:
                        function(program, name, early)
                    self.assertEqual(caught.exception.most, 300)

    def test_many_calls_and_many_points(self):
        body = by("f", -1)
        for _ in range(7):
            body = ("plus", body, body)
        program = (("f", 0, ("if", ("below", 1), NOTHING, body)),)
        self.assertEqual(len(lots(program, "f", 200)), 201)
        self.assertEqual(unlike_path(program, ("f", 100), ("f", 200)), (0,) * 100)

    def test_random_programs(self):
        rng = random.Random(22)
        found = [0, 0]
        for _ in range(400):
            program = rng.choice((random_program, random_walker))(rng)
            if not is_program(program):
                continue
            name, early = rng.choice(program)[0], rng.choice((0, 1, 2, 5, 9))
            bound = max(early, ground(program)) + len(program) * common(program) * rise(program)
            met = points_met(program, (name, early), bound)
            if met is not None and len(met) > 80:
                continue
            with self.subTest(program=program, name=name, early=early):
                self.assertEqual(lots(program, name, early), lots_of(program, (name, early), bound))
                self.assertEqual(least(program, name, early), least_of(program, (name, early), bound))
            found[met is not None and len(lots(program, name, early)) < len(met)] += 1
        self.assertGreater(min(found), 60)


class LeastTest(unittest.TestCase):
    def test_ordinary_ones(self):
        self.assertEqual(least(TWO, "f", 1), (("f_1", 1, LATE),))
        self.assertEqual(least(TWO, "f", 2), (("f_2", 1, ("call", "f_1", (LATE,))), ("f_1", 1, LATE)))
        self.assertEqual(least(POWER, "pow", 3), staged(POWER, "pow", 3))

    def test_the_start_s_lot_comes_first_by_the_name_of_its_least_point(self):
        # All points of f are alike, whatever their early numbers, and f_0 is the least one.
        program = (("f", 1, ("times", by("f", -1, LATE), to("aa", 3))), ("g", 0, to("f", 9, ONE)), ("aa", 0, ONE))
        self.assertEqual(least(program, "f", 5), (("f_0", 1, ("times", ("call", "f_0", (LATE,)),
            ("call", "aa_3", ()))), ("aa_3", 0, ONE)))
        self.assertEqual([name for name, _, _ in least(program, "g", 5)], ["g_5", "aa_3", "f_0"])

    def test_numbers_are_ordered_as_numbers(self):
        program = (("f", 0, ("plus", to("g", 10), to("g", 9))), ("g", 0, ("if", ("below", 10), ONE, NOTHING)))
        self.assertEqual([name for name, _, _ in least(program, "f", 0)], ["f_0", "g_9", "g_10"])
        program = (("f", 0, ("plus", to("g", 10), to("g", 9))), ("g", 0, ONE))
        self.assertEqual(least(program, "f", 0), (("f_0", 0, ("plus", ("call", "g_9", ()), ("call", "g_9", ()))),
                                                  ("g_9", 0, ONE)))

    def test_calls_within_late_expressions_are_renamed(self):
        program = (("f", 1, by("g", 0, by("g", 1, by("g", 2, LATE)))), ("g", 1, LATE))
        call = ("call", "g_3", (("call", "g_3", (("call", "g_3", (LATE,)),)),))
        self.assertEqual(least(program, "f", 3), (("f_3", 1, call), ("g_3", 1, LATE)))

    def test_runs_of_least_programs(self):
        rng = random.Random(23)
        shorter = 0
        for _ in range(500):
            program = random_program(rng, rng.randint(4, 6))
            if not is_program(program):
                continue
            name, many, _ = rng.choice(program)
            early, fuel = rng.choice((0, 1, 2, 5, 9)), rng.choice((3, 20, 500))
            lates = tuple(rng.choice((0, 1, 2, 5, 1000000)) for _ in range(many))
            try:
                plain, other = staged(program, name, early), least(program, name, early)
            except TooMany:
                continue
            if plain is not None:
                shorter += len(other) < len(plain)
                self.assertTrue(is_plain(other))
                self.assertIs(plain_alike(plain, other), True)
                self.assertEqual(plain_run(other, lates, fuel), plain_run(plain, lates, fuel))
        self.assertGreater(shorter, 10)


class PlainAlikeTest(unittest.TestCase):
    def test_starts_alone_count(self):
        one = (("f_0", 1, ("call", "g_0", (LATE,))), ("g_0", 1, LATE), ("h_0", 0, ONE))
        other = (("aa_0", 1, ("call", "f_0", (LATE,))), ("h_0", 3, NOTHING), ("f_0", 1, LATE))
        self.assertIs(plain_alike(one, other), True)
        self.assertIs(plain_alike(other, one), True)
        self.assertIs(plain_alike(one, other[::-1]), False)
        self.assertIs(plain_alike(one, other[:2] + (("f_0", 1, ONE),)), False)

    def test_the_same_names_mean_each_program_s_own_functions(self):
        one = (("f_0", 0, ("call", "g_0", ())), ("g_0", 0, ONE))
        other = (("f_0", 0, ("call", "g_0", ())), ("g_0", 0, NOTHING))
        self.assertIs(plain_alike(one, other), False)
        self.assertIs(plain_alike(one, one), True)

    def test_numbers_of_late_numbers(self):
        for one in range(5):
            for other in range(5):
                self.assertIs(plain_alike((("f_0", one, ONE),), (("f_0", other, ONE),)), one == other)

    def test_loops(self):
        ring = tuple((f"f_{at}", 0, ("call", f"f_{(at + 1) % 300}", ())) for at in range(300))
        self.assertIs(plain_alike(ring, (("go_7", 0, ("call", "go_7", ())),)), True)
        self.assertIs(plain_alike(ring, ring[:299] + (("f_299", 0, ONE),)), False)
        self.assertEqual(plain_least(ring), (("f_0", 0, ("call", "f_0", ())),))

    def test_long_chains(self):
        line = tuple((f"f_{at}", 0, ("call", f"f_{at + 1}", ())) for at in range(299)) + (("f_299", 0, ONE),)
        self.assertIs(plain_alike(line, line), True)
        self.assertIs(plain_alike(line, line[:299] + (("f_299", 0, NOTHING),)), False)
        self.assertIs(plain_alike(line, line[1:]), False)
        self.assertEqual(plain_least(line), line)

    def test_random_ones(self):
        rng = random.Random(24)
        found = [0, 0]
        for _ in range(300):
            one = random_plain(rng, rng.randint(1, 3))
            other = rng.choice((plain_least(one), one, random_plain(rng, rng.randint(1, 3))))
            graph = Graph([(0, function) for function in one] + [(1, function) for function in other])
            expected = ((0, one[0][0]), (1, other[0][0])) not in graph.unlike_pairs()
            found[expected] += 1
            with self.subTest(one=one, other=other):
                self.assertIs(plain_alike(one, other), expected)
        self.assertGreater(min(found), 50)


class PlainLeastTest(unittest.TestCase):
    def test_nothing_to_fold(self):
        for plain in (staged(POWER, "pow", 5), (("f_0", 2, ("late", 1)),)):
            self.assertEqual(plain_least(plain), plain)

    def test_functions_that_the_start_does_not_reach_go(self):
        plain = (("f_0", 0, ("call", "h_0", ())), ("g_0", 0, ("call", "f_0", ())), ("h_0", 0, ONE), ("k_0", 0, ONE))
        self.assertEqual(plain_least(plain), (plain[0], plain[2]))
        self.assertEqual(plain_least(plain[2:]), plain[2:3])

    def test_one_that_is_not_reached_lends_no_name(self):
        plain = (("f_0", 0, ("plus", ("call", "h_0", ()), ("call", "k_0", ()))), ("g_0", 0, ONE), ("h_0", 0, ONE),
                 ("k_0", 0, ONE))
        self.assertEqual(plain_least(plain), (("f_0", 0, ("plus", ("call", "h_0", ()), ("call", "h_0", ()))),
                                              ("h_0", 0, ONE)))

    def test_the_start_keeps_its_place_and_name(self):
        plain = (("z_9", 0, ("call", "bb_0", ())), ("bb_0", 0, ("call", "aa_0", ())), ("aa_0", 0, ("call", "bb_0", ())))
        self.assertEqual(plain_least(plain), (("z_9", 0, ("call", "z_9", ())),))

    def test_lots_are_named_by_and_ordered_by_their_first_functions(self):
        calls = ("plus", ("call", "k_4", ()), ("plus", ("call", "f_3", ()),
                                               ("plus", ("call", "g_2", ()), ("call", "h_1", ()))))
        plain = (("s_0", 0, calls), ("k_4", 0, ONE), ("f_3", 0, NOTHING), ("g_2", 0, ONE), ("h_1", 0, NOTHING))
        expected = ("plus", ("call", "k_4", ()), ("plus", ("call", "f_3", ()),
                                                  ("plus", ("call", "k_4", ()), ("call", "f_3", ()))))
        self.assertEqual(plain_least(plain), (("s_0", 0, expected), ("k_4", 0, ONE), ("f_3", 0, NOTHING)))

    def test_numbers_of_late_numbers_tell_functions_apart(self):
        plain = (("f_0", 0, ("plus", ("call", "g_0", (ONE,)), ("call", "h_0", (ONE, ONE)))), ("g_0", 1, ONE),
                 ("h_0", 2, ONE))
        self.assertEqual(plain_least(plain), plain)

    def test_random_ones(self):
        rng = random.Random(25)
        shorter = 0
        for _ in range(600):
            plain = random_plain(rng, rng.randint(1, 5))
            if rng.random() < 0.5:
                # Each function twice, and calls of the one or of the other.
                twice = [(name + end, lates, body) for end in ("", "1") for name, lates, body in plain]
                plain = tuple((name.replace("_", "_1"), lates, renamed(body, {
                    other: (other + rng.choice(("", "1"))).replace("_", "_1") for other, _, _ in plain}))
                    for name, lates, body in twice)
            if not is_plain(plain):
                continue
            least_one = plain_least(plain)
            shorter += len(least_one) < len(plain)
            with self.subTest(plain=plain):
                self.assertEqual(least_one, least_plain(plain))
                self.assertIs(plain_alike(plain, least_one), True)
                self.assertEqual(plain_least(least_one), least_one)
        self.assertGreater(shorter, 100)


class WrongArgumentsTest(unittest.TestCase):
    start = (Argument(POWER, (), BadProgram), Argument("pow", "other", BadName, is_good("pow")),
             Argument(3, 1001, BadNumber, is_number(1000)))
    pair = (Argument(POWER, (), BadProgram), Argument(("pow", 1), ("other", 1), BadPoint, is_good(("pow", 1))),
            Argument(("pow", 2), ("pow", -1), BadPoint, is_good(("pow", 1))))
    plain = Argument((("f_0", 1, LATE),), (("f_0", 1, EARLY),), BadPlain)

    def test_stagings(self):
        for function in (lots, least):
            check_arguments(self, function, *self.start)

    def test_points(self):
        for function in (alike, unlike_path):
            check_arguments(self, function, *self.pair)
            for wrong in (("pow", -1), ("pow", 10000001), ("pow", True), ("pow", None), ("po", 1), (["pow"], 1),
                          ("pow",), ["pow", 1]):
                self.assertRaises(BadPoint, function, POWER, wrong, ("pow", 1))
                self.assertRaises(BadPoint, function, POWER, ("pow", 1), wrong)
        check_order(self, shows_unlike_path, self.pair, [()])
        check_unchanged(self, shows_unlike_path, self.pair, [(0, 1)])
        check_values(self, lambda *arguments: shows_unlike_path(*arguments, None), self.pair)

    def test_plain_programs(self):
        check_arguments(self, plain_alike, self.plain, self.plain)
        check_arguments(self, plain_least, self.plain)
        for plain in (POWER, list(POWER), (("f_0", 1, EARLY),), (("f", 1, LATE),)):
            self.assertRaises(BadPlain, plain_least, plain)

    def test_stagings_that_never_end(self):
        for function in (alike, unlike_path):
            self.assertRaises(NotEnding, function, UP, ("go", 5), ("go", 1))
            self.assertRaises(NotEnding, function, UP, ("go", 1), ("go", 5))
            self.assertRaises(NotEnding, function, UP, ("go", 10000000), ("go", 1))
            self.assertIs(function(UP, ("go", 4), ("go", 1)), {alike: True, unlike_path: None}[function])

    def test_the_leftmost_error_comes_first(self):
        # The first point's staging counts ahead of what is wrong with the second point.
        for function in (alike, unlike_path):
            self.assertRaises(NotEnding, function, UP, ("go", 5), ("go", -1))
            self.assertRaises(NotEnding, function, UP, ("go", 5), None)
            self.assertRaises(BadPoint, function, UP, ("go", -1), ("go", 5))
            self.assertRaises(BadProgram, function, (), ("go", 5), ("go", 5))

    def test_too_many_comes_after_all_others(self):
        both = DOWN + UP
        for function in (alike, unlike_path):
            for pair in ((300, 1), (1, 300), (300, 300), (1000, 5), (3, 1001), (10000000, 10000000)):
                with self.assertRaises(TooMany) as caught:
                    function(DOWN, *[("down", early) for early in pair])
                self.assertEqual(caught.exception.most, 300)
            self.assertRaises(NotEnding, function, both, ("down", 300), ("go", 5))
            self.assertRaises(NotEnding, function, both, ("go", 5), ("down", 300))
            self.assertRaises(BadPoint, function, both, ("down", 10000000), ("go", None))
        self.assertIs(alike(DOWN, ("down", 299), ("down", 299)), True)
        # Each of the two may meet as many.
        pairs = DOWN + (("other", 0, ("if", ("below", 1), ONE, by("other", -1))),)
        self.assertEqual(unlike_path(pairs, ("down", 299), ("other", 299)), (0,) * 299)

    def test_an_endless_staging_that_meets_more_points_before(self):
        # Down to 0 past more than 300 points, and up again for ever.
        program = (("f", 0, ("if", ("below", 1), to("go", 5), by("f", -1))),) + UP
        for early in (0, 7, 1000, 10000000):
            self.assertRaises(NotEnding, alike, program, ("f", early), ("go", 0))
            self.assertRaises(NotEnding, alike, program, ("go", 0), ("f", early))

    def test_arguments_are_not_changed(self):
        program, plain = copy.deepcopy(FOUR), copy.deepcopy(staged(POWER, "pow", 3))
        lots(program, "first", 3), least(program, "first", 3), plain_least(plain), plain_alike(plain, plain)
        alike(program, ("first", 3), ("third", 3)), unlike_path(program, ("first", 3), ("third", 3))
        self.assertEqual((program, plain), (FOUR, staged(POWER, "pow", 3)))


if __name__ == "__main__":
    unittest.main()
