import inspect
import random
import unittest

from staged import rounds
from staged.errors import BadIndex, BadPlain, BadProgram, NotLifted, NotSwapped
from staged.plains import is_plain, plain_run
from staged.programs import is_program, node_count
from staged.rounds import lifted, swapped
from staged.runs import run
from tests.arguments import Argument, check_arguments, is_number
from tests.samples import chain, random_plain, random_program
from tests.turner import turned

MOST = 10 ** 30
LATE, EARLY, ONE = ("late", 0), ("early",), ("number", 1)
LESS = (("f", 1, ("if", ("below", 3), LATE, ("call", "f", ("move", -1), (("plus", LATE, ("number", 2)),)))),)
LETTERS = ("pa", "pb", "pc", "pd", "pe", "pf", "pg", "ph")


def number(value):
    return ("number", value)


def swap(body, index=0, lates=1):
    """Return the body of the only function of a swapped program."""
    return swapped((("f", lates, body),), index)[0][2]


def lift(body, index=0, lates=1):
    """Return the body of the only function of a lifted plain program."""
    return lifted((("f_0", lates, body),), index)[0][2]


def handing(late, lates=1, index=0, move=("move", 0)):
    """Return the body of f that calls f and hands on a late expression at an index, and the late numbers themselves."""
    return ("call", "f", move, tuple(late if at == index else ("late", at) for at in range(lates)))


def plain_handing(late, lates=1, index=0):
    return ("call", "f_0", tuple(late if at == index else ("late", at) for at in range(lates)))


class SwappedTest(unittest.TestCase):
    def test_interface(self):
        shapes = {"swapped": "(program, index)", "lifted": "(plain, index)"}
        for name, shape in shapes.items():
            with self.subTest(name):
                self.assertEqual(str(inspect.signature(getattr(rounds, name))), shape)
                self.assertEqual(getattr(rounds, name).__module__, "staged.rounds")

    def refuses(self, body, index=0, lates=1):
        with self.assertRaises(NotSwapped, msg=str(body)[:200]):
            swap(body, index, lates)

    def test_an_ordinary_one(self):
        other = (("f", 1, ("if", ("less", LATE, number(3)), EARLY, ("call", "f", ("move", 2),
            (("minus", LATE, ONE),)))),)
        self.assertEqual(swapped(LESS, 0), other)
        self.assertEqual(swapped(other, 0), LESS)

    def test_leaves(self):
        for index in range(4):
            self.assertEqual(swap(EARLY, index, 4), ("late", index))
            self.assertEqual(swap(number(1000000), index, 4), number(1000000))
            for late in range(4):
                self.assertEqual(swap(("late", late), index, 4), EARLY if late == index else ("late", late))

    def test_names_and_numbers_of_late_numbers_stay(self):
        program = (("f", 2, LATE), ("g", 4, ("late", 1)), ("h", 3, EARLY))
        self.assertEqual(swapped(program, 1), (("f", 2, LATE), ("g", 4, EARLY), ("h", 3, ("late", 1))))

    def test_operations(self):
        for word in ("plus", "minus", "times"):
            self.assertEqual(swap((word, EARLY, (word, LATE, ("late", 1))), 0, 2),
                             (word, LATE, (word, EARLY, ("late", 1))))

    def test_each_function_has_such_a_late_number(self):
        for lates in range(5):
            for index in range(4):
                program = (("f", 4, ONE), ("g", lates, ONE))
                with self.subTest(lates=lates, index=index):
                    if index < lates:
                        self.assertEqual(swapped(program, index), program)
                    else:
                        self.assertRaises(NotSwapped, swapped, program, index)
                        self.assertRaises(NotSwapped, swapped, program[::-1], index)

    def test_late_expressions_become_moves(self):
        for index in range(4):
            late = ("late", index)
            for handed, move in ((number(0), ("give", 0)), (number(7), ("give", 7)), (number(1000), ("give", 1000)),
                                 (late, ("move", 0)),
                                 (("plus", late, number(0)), ("move", 0)), (("plus", late, number(1)), ("move", 1)),
                                 (("plus", late, number(5)), ("move", 5)), (("minus", late, number(0)), ("move", 0)),
                                 (("minus", late, number(1)), ("move", -1)),
                                 (("minus", late, number(5)), ("move", -5))):
                with self.subTest(index=index, handed=handed):
                    self.assertEqual(swap(handing(handed, 4, index), index, 4)[2], move)

    def test_late_expressions_that_do_not(self):
        for index in range(4):
            late, other = ("late", index), ("late", (index + 1) % 4)
            for handed in (number(1001), number(1000000), other, EARLY, ("plus", late, number(6)),
                           ("minus", late, number(6)),
                           ("plus", number(1), late), ("minus", number(1), late), ("times", late, number(1)),
                           ("plus", late, number(1000000)), ("plus", late, late), ("plus", late, EARLY),
                           ("plus", other, number(1)),
                           ("minus", other, number(1)), ("plus", EARLY, number(1)), ("plus", number(1), number(1)),
                           ("plus", ("plus", late, number(1)), number(1)),
                           ("plus", late, ("plus", number(1), number(1))),
                           ("if", ("less", late, number(1)), late, late), handing(late, 4, index)):
                with self.subTest(index=index, handed=handed):
                    self.refuses(handing(handed, 4, index), index, 4)

    def test_moves_become_late_expressions(self):
        for index in range(4):
            late = ("late", index)
            for move, handed in ((("give", 0), number(0)), (("give", 1000), number(1000)), (("move", 0), late),
                                 (("move", 1), ("plus", late, number(1))), (("move", 5), ("plus", late, number(5))),
                                 (("move", -1), ("minus", late, number(1))),
                                 (("move", -5), ("minus", late, number(5)))):
                with self.subTest(index=index, move=move):
                    expected = tuple(handed if at == index else ("late", at) for at in range(4))
                    self.assertEqual(swap(handing(late, 4, index, move), index, 4),
                                     ("call", "f", ("move", 0), expected))

    def test_the_other_late_expressions_are_turned(self):
        body = ("call", "f", ("move", -1), (EARLY, ("late", 1), ("plus", EARLY, ("late", 1)), ("late", 2)))
        self.assertEqual(swap(body, 1, 4), ("call", "f", ("move", 0), (
            ("late", 1), ("minus", ("late", 1), ONE), ("plus", ("late", 1), EARLY), ("late", 2))))

    def test_calls_within_late_expressions(self):
        inner = ("call", "f", ("give", 3), (LATE, EARLY))
        body = ("call", "f", ("move", 0), (("plus", LATE, ONE), ("times", inner, LATE)))
        turned_inner = ("call", "f", ("move", 0), (number(3), LATE))
        self.assertEqual(swap(body, 0, 2), ("call", "f", ("move", 1), (LATE, ("times", turned_inner, EARLY))))
        self.refuses(("call", "f", ("move", 0), (LATE, ("call", "f", ("move", 0), (EARLY, LATE)))), 0, 2)

    def test_rests(self):
        for body in (("if", ("rest", 2, 1), LATE, ONE), ("plus", ONE, ("if", ("rest", 6, 0), ONE, ONE)),
                     handing(LATE, 2, 0)[:3] + ((LATE, ("if", ("rest", 2, 1), LATE, ONE)),),
                     ("if", ("less", ("if", ("rest", 2, 1), LATE, ONE), LATE), ONE, ONE)):
            self.refuses(body, 0, 2)
        self.assertRaises(NotSwapped, swapped, LESS + (("g", 1, ("if", ("rest", 2, 1), ONE, ONE)),), 0)

    def test_belows_become_lesses(self):
        for index in range(4):
            for bound in (0, 1, 1000):
                self.assertEqual(swap(("if", ("below", bound), EARLY, ("late", index)), index, 4),
                                 ("if", ("less", ("late", index), number(bound)), ("late", index), EARLY))

    def test_lesses_that_become_belows(self):
        for index in range(4):
            late = ("late", index)
            for bound in (0, 1, 999, 1000):
                self.assertEqual(swap(("if", ("less", late, number(bound)), EARLY, late), index, 4),
                                 ("if", ("below", bound), late, EARLY))
            for bound in (0, 1, 998, 999):
                self.assertEqual(swap(("if", ("less", number(bound), late), EARLY, late), index, 4),
                                 ("if", ("below", bound + 1), EARLY, late))

    def test_lesses_that_would_be_of_two_early_expressions(self):
        for index in range(4):
            late = ("late", index)
            small = ("if", ("less", late, number(3)), ONE, late)
            for test in ((late, number(1001)), (late, number(1000000)), (number(1000), late), (number(1001), late),
                         (number(1000000), late),
                         (late, late), (late, ("plus", number(1), number(1))), (("plus", late, number(1)), number(3)),
                         (small, number(5)),
                         (number(5), ("minus", late, late)), (small, small), (number(3), small)):
                with self.subTest(index=index, test=test):
                    self.refuses(("if", ("less", *test), ONE, ONE), index, 4)
                    self.refuses(("plus", ONE, ("if", ("less", *test), ONE, ONE)), index, 4)

    def test_lesses_that_stay(self):
        for one, other in ((LATE, ("late", 1)), (("late", 1), LATE), (LATE, EARLY), (EARLY, LATE),
                           (("late", 1), number(1000000)),
                           (number(5), ("late", 1)), (LATE, ("plus", EARLY, ONE)),
                           (LATE, ("if", ("below", 3), ONE, ONE)),
                           (LATE, ("call", "f", ("give", 1), (LATE, LATE)))):
            with self.subTest(one=one, other=other):
                test = swap(("if", ("less", one, other), ONE, ONE), 0, 2)[1]
                self.assertEqual((test[0], len(test)), ("less", 3))
                self.assertEqual(swap(("if", test, ONE, ONE), 0, 2), ("if", ("less", one, other), ONE, ONE))

    def test_programs_that_would_be_too_large(self):
        # Each below has one node, the less that it becomes has three.
        for many, fits in ((43, True), (44, False)):
            parts = [("if", ("below", 1), LATE, LATE)] * many
            while len(parts) > 1:
                parts = [("plus", *parts[at:at + 2]) if at + 1 < len(parts) else parts[at] for at in range(0,
                    len(parts), 2)]
            program = (("f", 1, parts[0]),)
            self.assertEqual(node_count(program), 5 * many - 1)
            if fits:
                self.assertEqual(node_count(swapped(program, 0)), 300)
            else:
                self.assertRaises(NotSwapped, swapped, program, 0)

    def test_programs_that_would_be_nested_too_deep(self):
        deep = ("if", ("below", 1), LATE, ONE)
        self.assertEqual(swap(chain(28, deep)), chain(28, ("if", ("less", LATE, ONE), EARLY, ONE)))
        self.refuses(chain(29, deep))
        call = ("call", "f", ("move", 1), (LATE,))
        self.assertEqual(swap(chain(28, call)), chain(28, ("call", "f", ("move", 0), (("plus", LATE, ONE),))))
        self.refuses(chain(29, call))
        self.assertEqual(swap(chain(29, ("call", "f", ("give", 1), (LATE,)))),
                         chain(29, ("call", "f", ("move", 0), (ONE,))))

    def test_random_programs(self):
        rng = random.Random(26)
        found = [0, 0]
        for _ in range(6000):
            program = random_round(rng)
            index = rng.randrange(2)
            if not is_program(program):
                continue
            expected = turned(program, index)
            found[expected is None] += 1
            with self.subTest(program=program, index=index):
                if expected is None:
                    self.assertRaises(NotSwapped, swapped, program, index)
                else:
                    self.assertEqual(swapped(program, index), expected)
        self.assertGreater(min(found), 300)

    def test_runs_have_the_same_values(self):
        rng = random.Random(27)
        many = 0
        for _ in range(4000):
            program = random_round(rng)
            index = rng.randrange(2)
            if not is_program(program) or turned(program, index) is None:
                continue
            other = swapped(program, index)
            name, lates, _ = rng.choice(program)
            numbers = [rng.choice((0, 1, 2, 3, 4, 5, 9, 1000)) for _ in range(lates + 1)]
            one = run(program, name, numbers[0], tuple(numbers[1:]), 300)
            numbers[0], numbers[index + 1] = numbers[index + 1], numbers[0]
            two = run(other, name, numbers[0], tuple(numbers[1:]), 1000)
            if one is not None and two is not None:
                many += 1
                self.assertEqual(one[0], two[0])
        self.assertGreater(many, 300)


def random_body(rng, depth, lates, arities, plain):
    """Return a random body, of which a late number may often be swapped or lifted."""
    if depth < 2 or rng.random() < 0.15:
        return rng.choice((number(rng.choice((0, 1, 2, 7, 999, 1000, 1000000))), ("late", rng.randrange(lates)),
                           ("late", 0) if plain else EARLY))

    def inner():
        return random_body(rng, depth - 1, lates, arities, plain)

    kind = rng.choice(("plus", "minus", "times", "if", "if", "if", "call", "call"))
    if kind == "call":
        name = rng.choice(sorted(arities))
        move = () if plain else (rng.choice((("give", rng.choice((0, 3, 1000))), ("move", rng.randint(-5, 5)),
                                             ("move", -1))),)
        return ("call",
                name,
                *move, tuple(random_late(rng, at) if rng.random() < 0.9 else inner() for at in range(arities[name])))
    if kind != "if":
        return (kind, inner(), inner())
    late, bound = ("late", rng.randrange(lates)), number(rng.choice((0, 1, 3, 999, 1000,
        1001)) if rng.random() < 0.1 else 4)
    tests = [("less", late, bound), ("less", bound, late), ("less", ("late", 1), inner()),
             ("less", inner(), ("late", 0))]
    if not plain:
        tests += [("below", 2), ("below", 1000), ("rest", 2, 1) if rng.random() < 0.05 else ("below", 3)]
    return ("if", rng.choice(tests), inner(), inner())


def random_late(rng, index):
    """Return a random late expression that may be handed on for the early number."""
    late = ("late", index)
    return rng.choice((late, late, number(rng.choice((0, 4, 1000))), ("plus", late, number(rng.randint(0, 5))),
                       ("minus", late, number(rng.randint(0, 5))), ("minus", late, ONE)))


def random_round(rng):
    """Return a random program of functions with two or three late numbers."""
    arities = {name: rng.randint(2, 3) for name in ("f", "go", "pow")[:rng.randint(1, 3)]}
    return tuple((name, lates, random_body(rng, rng.randint(2, 4), lates, arities, False)) for name,
                 lates in arities.items())


def random_plain_round(rng):
    """Return a random plain program of functions with two or three late numbers."""
    arities = {name: rng.randint(2, 3) for name in ("f_0", "go_3", "go_10")[:rng.randint(1, 3)]}
    return tuple((name, lates, random_body(rng, rng.randint(2, 4), lates, arities, True)) for name,
                 lates in arities.items())


class LiftedTest(unittest.TestCase):
    def refuses(self, body, index=0, lates=1):
        with self.assertRaises(NotLifted, msg=str(body)[:200]):
            lift(body, index, lates)

    def test_ordinary_ones(self):
        plain = (("g_1", 1, ("if", ("less", number(4), LATE), number(0), LATE)),)
        self.assertEqual(lifted(plain, 0), (("pa", 0, ("if", ("below", 5), EARLY, number(0))),))
        plain = (("pow_3", 2, ("times", LATE, ("call", "low_0", (("minus", LATE, ONE), ("late", 1))))),
                 ("low_0", 2, ("late", 1)))
        self.assertEqual(lifted(plain, 0), (("pa", 1, ("times", EARLY, ("call", "pb", ("move", -1), (LATE,)))),
                                            ("pb", 1, LATE)))
        self.assertEqual(lifted(plain, 1), (
            ("pa", 1, ("times", LATE, ("call", "pb", ("move", 0), (("minus", LATE, ONE),)))), ("pb", 1, EARLY)))

    def test_late_numbers_behind_it_have_an_index_less_by_one(self):
        for index in range(4):
            for late in range(4):
                expected = EARLY if late == index else ("late", late - (late > index))
                self.assertEqual(lifted((("f_0", 4, ("late", late)),), index), (("pa", 3, expected),))

    def test_names(self):
        plain = tuple((f"f_{at}", 1, ("call", f"f_{(at + 1) % 8}", (LATE,))) for at in range(8))
        for many in range(1, 9):
            with self.subTest(many):
                some = plain[:many - 1] + ((plain[many - 1][0], 1, LATE),)
                self.assertEqual([name for name, _, _ in lifted(some, 0)], list(LETTERS[:many]))
        self.assertEqual(lifted(plain, 0), tuple((LETTERS[at], 0, ("call", LETTERS[(at + 1) % 8], ("move", 0),
            ())) for at in range(8)))

    def test_functions_that_are_too_many(self):
        for many, fits in ((8, True), (9, False), (300, False)):
            plain = tuple((f"f_{at}", 1, LATE) for at in range(many))
            if fits:
                self.assertEqual(lifted(plain, 0), tuple((name, 0, EARLY) for name in LETTERS))
            else:
                self.assertRaises(NotLifted, lifted, plain, 0)

    def test_each_function_has_such_a_late_number(self):
        for lates in range(5):
            for index in range(4):
                plain = (("f_0", 4, ONE), ("g_0", lates, ONE))
                with self.subTest(lates=lates, index=index):
                    if index < lates:
                        self.assertEqual(lifted(plain, index), (("pa", 3, ONE), ("pb", lates - 1, ONE)))
                    else:
                        self.assertRaises(NotLifted, lifted, plain, index)

    def test_late_expressions_become_moves(self):
        for index in range(4):
            late = ("late", index)
            for handed, move in ((number(0), ("give", 0)), (number(1000), ("give", 1000)), (late, ("move", 0)),
                                 (("plus", late, number(5)), ("move", 5)), (("plus", late, number(0)), ("move", 0)),
                                 (("minus", late, number(5)), ("move", -5)), (("minus", late, number(0)), ("move", 0))):
                with self.subTest(index=index, handed=handed):
                    self.assertEqual(lift(plain_handing(handed, 4, index), index, 4),
                                     ("call", "pa", move, (("late", 0), ("late", 1), ("late", 2))))

    def test_late_expressions_that_do_not(self):
        for index in range(4):
            late, other = ("late", index), ("late", (index + 1) % 4)
            for handed in (number(1001), number(MOST), other, ("plus", late, number(6)), ("minus", late, number(6)),
                           ("plus", ONE, late),
                           ("minus", ONE, late), ("times", late, ONE), ("plus", late, late), ("plus", other, ONE),
                           ("plus", ONE, ONE),
                           ("if", ("less", late, ONE), late, late), plain_handing(late, 4, index)):
                with self.subTest(index=index, handed=handed):
                    self.refuses(plain_handing(handed, 4, index), index, 4)

    def test_lesses(self):
        for bound in (0, 1, 999, 1000):
            self.assertEqual(lift(("if", ("less", LATE, number(bound)), ONE, LATE)),
                             ("if", ("below", bound), ONE, EARLY))
        for bound in (0, 998, 999):
            self.assertEqual(lift(("if", ("less", number(bound), LATE), ONE, LATE)),
                             ("if", ("below", bound + 1), EARLY, ONE))
        for test in ((LATE, number(1001)), (LATE, number(MOST)), (number(1000), LATE), (number(1001), LATE),
                     (LATE, LATE), (ONE, ONE),
                     (ONE, number(2)), (("plus", LATE, ONE), number(3)), (number(3), ("times", LATE, LATE))):
            with self.subTest(test=test):
                self.refuses(("if", ("less", *test), ONE, ONE))
        for test in ((LATE, ("late", 1)), (number(7), ("late", 1)), (("late", 1), number(1000000)),
                     (LATE, ("plus", LATE, ("late", 1)))):
            self.assertEqual(lift(("if", ("less", *test), ONE, ONE), 0, 2)[1][0], "less")
        self.refuses(("if", ("less", ("late", 1), number(1000001)), ONE, ONE), 0, 2)

    def test_great_numbers(self):
        for value, fits in ((999999, True), (1000000, True), (1000001, False), (MOST, False)):
            for body in (number(value), ("plus", LATE, number(value))):
                if fits:
                    self.assertEqual(lift(body), number(value) if body[0] == "number" else ("plus", EARLY,
                        number(value)))
                else:
                    self.refuses(body)

    def test_nodes(self):
        parts = [LATE] * 150
        while len(parts) > 1:
            parts = [("plus", *parts[at:at + 2]) if at + 1 < len(parts) else parts[at] for at in range(0, len(parts),
                2)]
        full = (("f_0", 1, parts[0]), ("g_0", 1, LATE))
        self.assertEqual(node_count(lifted(full, 0)), 300)
        self.assertRaises(NotLifted, lifted, full + (("h_0", 1, LATE),), 0)
        self.assertRaises(NotLifted, lifted, (full[0], ("g_0", 1, ("plus", LATE, LATE))), 0)
        # What counts are the nodes of the program that is written: a move is none.
        called = (full[0], ("g_0", 1, ("call", "g_0", (("plus", LATE, ONE),))))
        self.assertEqual(node_count(lifted(called, 0)), 300)
        self.assertEqual(node_count(lifted((full[0], ("g_0", 1, ("call", "g_0", (LATE,)))), 0)), 300)

    def test_deepest_bodies(self):
        self.assertEqual(lift(chain(30)), chain(30, EARLY))
        deep = ("call", "f_0", (("plus", LATE, ONE),))
        self.assertEqual(lift(chain(28, deep)), chain(28, ("call", "pa", ("move", 1), ())))

    def test_random_ones(self):
        rng = random.Random(28)
        found = [0, 0]
        for _ in range(4000):
            plain = random_plain_round(rng) if rng.random() < 0.9 else random_plain(rng, rng.randint(1, 3))
            index = rng.randrange(3)
            names = {name: letter for (name, _, _), letter in zip(plain, LETTERS)}
            if not is_plain(plain):
                continue
            expected = turned(plain, index, names)
            found[expected is None] += 1
            with self.subTest(plain=plain, index=index):
                if expected is None:
                    self.assertRaises(NotLifted, lifted, plain, index)
                else:
                    self.assertEqual(lifted(plain, index), expected)
        self.assertGreater(min(found), 300)

    def test_runs_have_the_same_values(self):
        rng = random.Random(29)
        many = 0
        for _ in range(3000):
            plain = random_plain_round(rng)
            index = rng.randrange(2)
            names = {name: letter for (name, _, _), letter in zip(plain, LETTERS)}
            if not is_plain(plain) or turned(plain, index, names) is None:
                continue
            numbers = [rng.choice((0, 1, 2, 3, 4, 5, 9, 1000)) for _ in range(plain[0][1])]
            one = plain_run(plain, tuple(numbers), 1000)
            early = numbers.pop(index)
            two = run(lifted(plain, index), "pa", early, tuple(numbers), 1000)
            if one is not None and two is not None:
                many += 1
                self.assertEqual(one[0], two[0])
        self.assertGreater(many, 300)


class WrongArgumentsTest(unittest.TestCase):
    def test_arguments(self):
        program = (("f", 4, LATE),)
        plain = (("f_0", 4, LATE),)
        check_arguments(self, swapped, Argument(program, (), BadProgram), Argument(1, 4, BadIndex, is_number(3)))
        check_arguments(self, lifted, Argument(plain, program, BadPlain), Argument(1, 4, BadIndex, is_number(3)))

    def test_indexes(self):
        for function, argument in ((swapped, (("f", 4, LATE),)), (lifted, (("f_0", 4, LATE),))):
            for index in range(4):
                self.assertTrue(function(argument, index))
            for index in (-1, 4, 5, 10 ** 30, True, False, None, "0", (0,), [0], {}):
                self.assertRaises(BadIndex, function, argument, index)

    def test_the_leftmost_error_comes_first_and_what_cannot_be_written_last(self):
        rest = (("f", 0, ("if", ("rest", 2, 1), ONE, ONE)),)
        self.assertRaises(BadIndex, swapped, rest, 4)
        self.assertRaises(NotSwapped, swapped, rest, 0)
        self.assertRaises(BadProgram, swapped, (("f_0", 1, LATE),), 4)
        many = tuple((f"f_{at}", 0, number(MOST)) for at in range(9))
        self.assertRaises(BadIndex, lifted, many, True)
        self.assertRaises(NotLifted, lifted, many, 0)
        self.assertRaises(BadPlain, lifted, LESS, 4)


if __name__ == "__main__":
    unittest.main()
