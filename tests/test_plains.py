import inspect
import random
import unittest

from staged import plains
from staged.errors import BadFuel, BadLates, BadPlain
from staged.plains import is_plain, plain_run
from tests.arguments import Argument, check_arguments, is_good, is_number
from tests.checker import BARRED, checked_plain
from tests.samples import FOUR, POWER, VALUES, chain, doubled, nested, of_nodes, random_plain, replacements

MOST = 10 ** 30
LATE, ONE = ("late", 0), ("number", 1)
TWICE = (("f_0", 1, ("plus", LATE, LATE)),)
SUM = (
    ("sum_3", 2, ("if", ("less", LATE, ONE), ("late", 1),
                  ("call", "sum_3", (("minus", LATE, ONE), ("call", "add_0", (LATE, ("late", 1))))))),
    ("add_0", 2, ("plus", LATE, ("late", 1))),
    ("none_0", 0, ("number", MOST)),
)
COUNTDOWN = (("down_1", 1, ("if", ("less", LATE, ONE), ("number", 0),
                            ("plus", ONE, ("call", "down_1", (("minus", LATE, ONE),))))),)


def of_body(body, lates=1):
    """Return a plain program, or what is none, of a start f_0 with this body, and others with 0 to 4 late numbers."""
    names = ("zero_0", "one_0", "two_0", "three_0", "four_0")
    return (("f_0", lates, body),) + tuple((name, many, ("number", many)) for many, name in enumerate(names))


def of_test(test):
    return of_body(("if", test, LATE, ONE))


def named(name):
    return ((name, 0, ("call", name, ())),)


def value_of(body, lates=(), fuel=100000):
    """Return what a run of a start with this body gives; it may call add_0 and none_0."""
    return plain_run((("f_0", len(lates), body),) + SUM, lates, fuel)


class IsPlainTest(unittest.TestCase):
    def all_are(self, values, expected=True):
        for at, value in enumerate(values):
            with self.subTest(at):
                self.assertIs(is_plain(value), expected)

    def none_is(self, values):
        self.all_are(values, False)

    def test_interface(self):
        for name, shape in {"is_plain": "(value)", "plain_run": "(plain, lates, fuel)"}.items():
            with self.subTest(name):
                self.assertEqual(str(inspect.signature(getattr(plains, name))), shape)
                self.assertEqual(getattr(plains, name).__module__, "staged.plains")

    def test_ordinary_ones(self):
        self.all_are((TWICE, SUM, COUNTDOWN, TWICE + SUM, of_body(LATE)))

    def test_no_values_of_other_kinds(self):
        self.none_is(VALUES)
        self.none_is((value,) for value in VALUES)
        self.none_is(TWICE + (value,) for value in VALUES)

    def test_programs_are_not_plain(self):
        self.none_is((POWER, FOUR, (("pow_0", 1, POWER[0][2]),)))

    def test_lists_are_no_tuples(self):
        self.none_is((list(TWICE), (list(TWICE[0]),), of_body(["late", 0]), of_body(["number", 1]),
                      of_body(["plus", LATE, LATE]), of_body(("plus", ["late", 0], LATE)), of_test(["less", LATE, ONE]),
                      of_body(["if", ("less", LATE, ONE), LATE, ONE]), of_body(["call", "zero_0", ()]),
                      of_body(("call", "zero_0", [])), of_body(("call", "one_0", [LATE]))))

    def test_plain_names(self):
        self.all_are(map(named, ("f_0", "f_1", "f_10", "z_9", "aa_0", "abcdefgh_10000000", "pow_9999999", "less_2",
                                 "iff_3", "f_1000000")))
        self.none_is(map(named, ("f", "f_", "_0", "_", "", "0", "f0", "f_00", "f_01", "f_007", "f_0_0", "f__0", "f_-1",
                                 "f_+1", "f_1.0", "f_ 1", "f _1", " f_1", "f_1 ", "f_1\n", "f_10000001", "f_99999999",
                                 "f_100000000", "f_010000000", "f_" + "1" * 5000, "f_1e3", "f_x", "F_0", "f1_0",
                                 "abcdefghi_0", "f_\u0661", "f_\u00b2", "\u00e9_0", "f_1_", "f-1", "f_True", "f_None",
                                 "f_0x1", "f_1_0", 1, None, True, ("f_0",), ["f_0"], ("f", 0))))

    def test_barred_names(self):
        for name in BARRED:
            self.none_is([named(f"{name}_0")])
        for letter in "abcdefghijklmnopqrstuvwxyz":
            self.assertIs(is_plain(named(f"{letter}_0")), letter > "e")

    def test_numbers(self):
        self.all_are(of_body(("number", number)) for number in (0, 1, 1000000, 1000001, MOST - 1, MOST))
        self.none_is(of_body(("number", number)) for number in
                     (-1, MOST + 1, 10 ** 5000, True, False, None, "1", (), (1,), [1], {}))
        self.none_is(map(of_body, (("number",), ("number", 1, 1), ("number", 1, ()))))

    def test_there_is_no_early_number(self):
        self.none_is((of_body(("early",)), of_body(("plus", ("early",), LATE)), of_test(("below", 1)),
                      of_test(("rest", 2, 1)), of_body(("call", "zero_0", ("give", 1), ())),
                      of_body(("call", "zero_0", ("move", 1), ())), of_body(("call", "zero", ("move", 1), ()))))

    def test_late_indexes(self):
        for lates in range(5):
            for index in range(-2, 7):
                with self.subTest(lates=lates, index=index):
                    self.assertIs(is_plain(of_body(("late", index), lates)), 0 <= index < lates)
        self.none_is(of_body(("late", index), 4) for index in (True, False, None, "0", (0,), [0], {}))
        self.none_is((of_body(("late",)), of_body(("late", 0, 0))))

    def test_numbers_of_late_ones(self):
        self.all_are(of_body(ONE, many) for many in range(5))
        self.none_is(of_body(ONE, many) for many in (-1, 5, True, False, None, "1", (), (1,), [1], {}))

    def test_operations_have_two_parts(self):
        for word in ("plus", "minus", "times"):
            with self.subTest(word):
                self.all_are(map(of_body, ((word, LATE, ONE), (word, ONE, ONE))))
                self.none_is(map(of_body, ((word,), (word, LATE), (word, LATE, LATE, LATE), (word, LATE, 1),
                                           (word, 1, LATE), (word, LATE, ("less", LATE, ONE)), (word, (), LATE))))

    def test_unknown_words(self):
        self.none_is(map(of_body, (("divide", LATE, LATE), ("less", LATE, LATE), ("Plus", LATE, LATE), (None, LATE, LATE),
                                   (1, LATE, LATE), (True,), (LATE,), (["plus"], LATE, LATE), ("give", 1), (), "late")))

    def test_ifs(self):
        less = ("less", LATE, ONE)
        self.all_are(map(of_body, (("if", less, LATE, ONE), ("if", ("less", ONE, ONE), ONE, ONE))))
        self.none_is(map(of_body, (("if",), ("if", less), ("if", less, LATE), ("if", less, LATE, LATE, LATE),
                                   ("if", LATE, LATE, LATE), ("if", less, less, LATE), ("if", less, LATE, less),
                                   ("if", True, LATE, LATE), ("if", ("if", less, LATE, LATE), LATE, LATE))))
        self.none_is(map(of_test, (("less",), ("less", LATE), ("less", LATE, LATE, LATE), ("less", LATE, 1),
                                   ("less", 1, LATE), ("less", less, LATE), ("less", LATE, less), ("more", LATE, LATE),
                                   (None, LATE, LATE), ("plus", LATE, LATE), (), "less", None, 1, {}, nested(100000))))

    def test_calls_name_a_function(self):
        self.none_is(of_body(("call", name, ())) for name in
                     ("other_0", "zero", "zero_1", "zero_00", "", None, True, 1, (), ("zero_0",), ["zero_0"],
                      {"zero_0": 1}, nested(100000)))
        self.all_are((of_body(("call", "f_0", (ONE,))), of_body(("call", "zero_0", ()))))

    def test_calls_hand_on_as_many_as_there_are_late_ones(self):
        for many, name in enumerate(("zero_0", "one_0", "two_0", "three_0", "four_0")):
            for handed in range(7):
                with self.subTest(name, handed=handed):
                    self.assertIs(is_plain(of_body(("call", name, (ONE,) * handed))), many == handed)

    def test_what_calls_hand_on(self):
        self.none_is(of_body(("call", "one_0", handed)) for handed in
                     ((1,), (None,), (("less", LATE, ONE),), [ONE], {0: ONE}, "e", 1, True, None, ("early",), (("early",),)))
        self.none_is(map(of_body, (("call",), ("call", "zero_0"), ("call", "zero_0", (), ()))))

    def test_names_are_unlike(self):
        self.none_is((TWICE + TWICE, TWICE + (("g_0", 0, ONE), ("f_0", 0, ONE))))
        self.all_are((TWICE + (("f_1", 0, ONE), ("f_10", 0, ONE)),))

    def test_functions_are_triples(self):
        self.none_is((TWICE[0], (("g_0", 0),), (("g_0", 0, ONE, ()),), TWICE + (None,), TWICE + ((),), ("f_0",), ()))

    def test_many_functions(self):
        many = tuple((f"f_{number}", 0, ("call", f"f_{max(0, number - 1)}", ())) for number in range(302))
        for number, expected in ((1, True), (8, True), (9, True), (299, True), (300, True), (301, False), (302, False)):
            with self.subTest(number):
                self.assertIs(is_plain(many[:number]), expected)
        self.assertFalse(is_plain(()))

    def test_depth(self):
        self.all_are((of_body(chain(30)), of_body(chain(30, ("number", MOST)))))
        self.none_is((of_body(chain(31)), of_body(chain(32)), of_body(chain(1000)), of_body(chain(100000))))
        for depth in (29, 30):
            deep = chain(depth)
            with self.subTest(depth):
                expected = depth == 29
                self.assertIs(is_plain(of_body(("call", "one_0", (deep,)))), expected)
                self.assertIs(is_plain(of_body(("call", "two_0", (ONE, deep)))), expected)
                self.assertIs(is_plain(of_body(("times", ONE, deep))), expected)
                self.assertIs(is_plain(of_body(("minus", deep, ONE))), expected)
                self.assertIs(is_plain(of_body(("if", ("less", LATE, ONE), deep, ONE))), expected)
                self.assertIs(is_plain(of_body(("if", ("less", LATE, ONE), ONE, deep))), expected)

    def test_tests_count_as_depth(self):
        for depth in (28, 29):
            deep = chain(depth)
            with self.subTest(depth):
                self.assertIs(is_plain(of_test(("less", deep, LATE))), depth == 28)
                self.assertIs(is_plain(of_test(("less", LATE, deep))), depth == 28)
        inner = ("if", ("less", LATE, ONE), LATE, ONE)
        self.all_are((of_body(chain(28, inner)),))
        self.none_is((of_body(chain(29, inner)),))

    def test_there_may_be_more_nodes_than_in_a_program(self):
        self.all_are((of_body(of_nodes(499)), of_body(doubled(14))))

    def test_shared_parts_may_be_nested_without_bounds(self):
        self.none_is((of_body(doubled(31)), of_body(doubled(100000)), of_body(nested(100000)),
                      of_body(("plus", LATE, nested(100000))), nested(100000), (("f_0", 0, nested(100000)),)))

    def test_replaced_parts(self):
        others = VALUES + (ONE, LATE, ("late", 1), ("less", LATE, ONE), "f_0", "add_0", "none_0", "f_01")
        for plain in (TWICE, SUM, COUNTDOWN):
            found = {True: 0, False: 0}
            for value in replacements(plain, others):
                expected = checked_plain(value)
                found[expected] += 1
                self.assertIs(is_plain(value), expected, f"replacement {found}")
            self.assertGreater(found[True], 10)
            self.assertGreater(found[False], 500)

    def test_random_ones(self):
        rng = random.Random(10)
        for _ in range(300):
            plain = random_plain(rng, rng.randint(1, 7))
            self.assertTrue(checked_plain(plain))
            self.assertIs(is_plain(plain), True)


class OutOfFuel(Exception):
    """A run makes more steps than it may."""


class Reckoner:
    """A second way to run a plain program, by Python's own calls, for little fuel."""

    def __init__(self, plain, fuel):
        self.bodies = {name: body for name, _, body in plain}
        self.fuel = fuel
        self.steps = 0

    def step(self):
        self.steps += 1
        if self.steps > self.fuel:
            raise OutOfFuel

    def value(self, expression, lates):
        word, *parts = expression
        if word == "number":
            return parts[0]
        if word == "late":
            return lates[parts[0]]
        if word == "if":
            one, other = [self.value(part, lates) for part in parts[0][1:]]
            self.step()
            return self.value(parts[1] if one < other else parts[2], lates)
        values = [self.value(part, lates) for part in (parts[1] if word == "call" else parts)]
        self.step()
        if word == "call":
            return self.value(self.bodies[parts[0]], values)
        one, other = values
        return min(max({"plus": one + other, "minus": one - other, "times": one * other}[word], 0), MOST)


def reckoned(plain, lates, fuel):
    """Return what a run gives."""
    reckoner = Reckoner(plain, fuel)
    try:
        return reckoner.value(plain[0][2], lates), reckoner.steps
    except OutOfFuel:
        return None


class PlainRunTest(unittest.TestCase):
    def test_the_answer_is_a_pair_of_integers(self):
        answer = plain_run(TWICE, (21,), 9)
        self.assertEqual((answer, type(answer)) + tuple(map(type, answer)), ((42, 1), tuple, int, int))

    def test_leaves(self):
        for number in (0, 1, 1000001, MOST):
            self.assertEqual(value_of(("number", number), (), 0), (number, 0))
        for index in range(4):
            self.assertEqual(value_of(("late", index), (0, 5, 1000000, 7), 0), ((0, 5, 1000000, 7)[index], 0))

    def test_operations(self):
        self.assertEqual(value_of(("plus", LATE, ("late", 1)), (7, 3)), (10, 1))
        self.assertEqual(value_of(("times", LATE, ("late", 1)), (7, 3)), (21, 1))
        self.assertEqual([value_of(("minus", LATE, ("late", 1)), lates) for lates in ((7, 3), (3, 3), (2, 3), (0, 9))],
                         [(4, 1), (0, 1), (0, 1), (0, 1)])

    def test_operations_of_numbers_are_steps(self):
        self.assertEqual(value_of(("plus", ONE, ONE)), (2, 1))
        self.assertEqual(value_of(("times", ("minus", ("number", 9), ONE), ("plus", ONE, ONE))), (16, 3))
        self.assertIsNone(value_of(("plus", ONE, ONE), (), 0))

    def test_values_reach_the_greatest_and_stay(self):
        greatest, less = ("number", MOST), ("number", MOST - 1)
        self.assertEqual(value_of(("plus", less, ("number", 0))), (MOST - 1, 1))
        self.assertEqual(value_of(("plus", less, ONE)), (MOST, 1))
        self.assertEqual(value_of(("plus", less, ("number", 2))), (MOST, 1))
        self.assertEqual(value_of(("plus", greatest, greatest)), (MOST, 1))
        self.assertEqual(value_of(("times", greatest, greatest)), (MOST, 1))
        self.assertEqual(value_of(("times", greatest, ("number", 0))), (0, 1))
        self.assertEqual(value_of(("times", less, ONE)), (MOST - 1, 1))
        self.assertEqual(value_of(("times", ("number", 10 ** 15), ("number", 10 ** 15))), (MOST, 1))
        self.assertEqual(value_of(("times", ("number", 10 ** 15 - 1), ("number", 10 ** 15 + 1))), (MOST - 1, 1))
        self.assertEqual(value_of(("minus", ("plus", greatest, ONE), ONE)), (MOST - 1, 2))
        self.assertEqual(value_of(("minus", ONE, greatest)), (0, 1))

    def test_less(self):
        body = ("if", ("less", LATE, ("late", 1)), ("number", 7), ("number", 8))
        self.assertEqual([value_of(body, lates) for lates in ((2, 3), (3, 3), (4, 3))], [(7, 1), (8, 1), (8, 1)])
        self.assertEqual(value_of(("if", ("less", ONE, ("number", 2)), LATE, ONE), (9,)), (9, 1))

    def test_only_the_branch_taken_is_worked_out(self):
        costly = ("plus", ("call", "add_0", (ONE, ONE)), ("times", ONE, ONE))
        for one, other, expected in ((LATE, costly, (0, 1)), (costly, LATE, (3, 5))):
            self.assertEqual(value_of(("if", ("less", LATE, ONE), one, other), (0,)), expected)
        for one, other, expected in ((LATE, costly, (3, 5)), (costly, LATE, (1, 1))):
            self.assertEqual(value_of(("if", ("less", LATE, ONE), one, other), (1,)), expected)

    def test_calls(self):
        self.assertEqual(value_of(("call", "none_0", ())), (MOST, 1))
        self.assertEqual(value_of(("call", "add_0", (LATE, ("times", LATE, LATE))), (3,)), (12, 3))
        self.assertEqual(plain_run(SUM, (4, 100), 100), (110, 4 * 5 + 1))
        self.assertEqual(value_of(("minus", ("call", "add_0", (ONE, ("late", 1))), LATE), (3, 9)), (7, 3))

    def test_the_start_is_the_first_function(self):
        self.assertEqual(plain_run(SUM[1:], (3, 4), 9), (7, 1))
        self.assertEqual(plain_run(SUM[2:], (), 0), (MOST, 0))

    def test_late_expressions_keep_their_order(self):
        plain = (("f_0", 0, ("call", "g_0", tuple(("number", n) for n in (1, 2, 3, 4)))),
                 ("g_0", 4, ("plus", ("times", LATE, ("number", 1000)),
                             ("plus", ("times", ("late", 1), ("number", 100)),
                              ("plus", ("times", ("late", 2), ("number", 10)), ("late", 3))))))
        self.assertEqual(plain_run(plain, (), 100), (1234, 7))

    def test_late_expressions_that_are_not_used_are_worked_out(self):
        plain = (("f_0", 1, ("call", "g_0", (("plus", LATE, LATE), ("times", ONE, ONE)))), ("g_0", 2, ("number", 9)))
        self.assertEqual(plain_run(plain, (5,), 100), (9, 3))
        ever = (("f_0", 0, ("call", "g_0", (("call", "f_0", ()),))), ("g_0", 1, ("number", 9)))
        self.assertIsNone(plain_run(ever, (), 1000))

    def test_a_deepest_body(self):
        self.assertEqual(value_of(chain(30), (5,)), (34, 29))
        self.assertEqual(value_of(chain(30), (5,), 29), (34, 29))
        self.assertIsNone(value_of(chain(30), (5,), 28))

    def test_fuel_just_enough_and_one_less(self):
        for body, lates in ((("plus", LATE, LATE), (1,)), (("minus", LATE, LATE), (1,)), (("times", LATE, LATE), (1,)),
                            (("if", ("less", LATE, ONE), LATE, ONE), (0,)), (("call", "none_0", ()), (1,))):
            self.assertIsNone(value_of(body, lates, 0))
            self.assertEqual(value_of(body, lates, 1)[1], 1)
        for early in (0, 1, 5, 1000):
            self.assertEqual(plain_run(SUM, (early, 0), 5 * early + 1)[1], 5 * early + 1)
            self.assertIsNone(plain_run(SUM, (early, 0), 5 * early))

    def test_runs_without_end(self):
        for body in (("call", "f_0", ()), ("plus", ONE, ("call", "f_0", ())), ("plus", ("call", "f_0", ()), ONE),
                     ("if", ("less", ("call", "f_0", ()), ONE), ONE, ONE), ("call", "add_0", (("call", "f_0", ()), ONE))):
            self.assertIsNone(value_of(body))

    def test_most_steps(self):
        # Each number counted down makes four steps, the last one makes one.
        self.assertEqual(plain_run(COUNTDOWN, (24999,), 100000), (24999, 99997))
        self.assertEqual(plain_run(COUNTDOWN, (24999,), 99997), (24999, 99997))
        self.assertIsNone(plain_run(COUNTDOWN, (24999,), 99996))
        self.assertIsNone(plain_run(COUNTDOWN, (25000,), 100000))
        start = (("f_0", 1, ("plus", ("plus", ("call", "down_1", (LATE,)), ONE), ONE)),)
        self.assertEqual(plain_run(start + COUNTDOWN, (24999,), 100000), (25001, 100000))
        self.assertIsNone(plain_run(start + COUNTDOWN, (24999,), 99999))

    def test_many_functions(self):
        many = tuple((f"f_{number}", 1, ("plus", ONE, ("call", f"f_{number + 1}", (LATE,)))) for number in range(299))
        self.assertEqual(plain_run(many + (("f_299", 1, LATE),), (7,), 598), (306, 598))

    def test_random_ones(self):
        rng = random.Random(11)
        found = [0, 0]
        for _ in range(1500):
            plain = random_plain(rng, rng.randint(2, 6))
            lates = tuple(rng.choice((0, 1, 2, 5, 1000000)) for _ in range(plain[0][1]))
            fuel = rng.choice((0, 1, 5, 20, 60))
            expected = reckoned(plain, lates, fuel)
            found[expected is None] += 1
            with self.subTest(plain=plain, lates=lates, fuel=fuel):
                self.assertEqual(plain_run(plain, lates, fuel), expected)
                if expected is not None and expected[1]:
                    self.assertEqual(plain_run(plain, lates, expected[1]), expected)
                    self.assertIsNone(plain_run(plain, lates, expected[1] - 1))
        self.assertGreater(min(found), 200)


class WrongArgumentsTest(unittest.TestCase):
    def test_arguments(self):
        check_arguments(self, plain_run, Argument(TWICE, (), BadPlain), Argument((2,), (1, 2), BadLates, is_good((0,))),
                        Argument(100, 100001, BadFuel, is_number(100000)))

    def test_wrong_plain_programs(self):
        for plain in (POWER, (("f_0", 1, ("early",)),), (("f_0", 0, LATE),), list(TWICE), TWICE + TWICE):
            self.assertRaises(BadPlain, plain_run, plain, (2,), 100)
            self.assertRaises(BadPlain, plain_run, plain, None, None)

    def test_late_numbers(self):
        for lates in ((), (1, 2), [2], (-1,), (1000001,), (True,), (False,), (None,), ("2",), ((2,),), ([2],), ({},),
                      2, "2", None, True, {2: 2}, (nested(100000),)):
            self.assertRaises(BadLates, plain_run, TWICE, lates, 100)
        for lates, value in (((0,), 0), ((1000000,), 2000000)):
            self.assertEqual(plain_run(TWICE, lates, 100), (value, 1))
        for many in range(5):
            plain = (("f_0", many, ONE),)
            for number in range(7):
                with self.subTest(many=many, number=number):
                    if number == many:
                        self.assertEqual(plain_run(plain, (1,) * number, 0), (1, 0))
                    else:
                        self.assertRaises(BadLates, plain_run, plain, (1,) * number, 0)

    def test_late_numbers_are_those_of_the_start(self):
        self.assertEqual(plain_run(SUM, (1, 1), 100), (2, 6))
        for lates in ((), (1,), (1, 1, 1)):
            self.assertRaises(BadLates, plain_run, SUM, lates, 100)

    def test_fuel(self):
        for fuel in (-1, 100001, MOST, True, False, None, "100", (), (100,), [100], {}):
            self.assertRaises(BadFuel, plain_run, TWICE, (2,), fuel)
        self.assertEqual(plain_run(TWICE, (2,), 100000), (4, 1))
        self.assertIsNone(plain_run(TWICE, (2,), 0))


if __name__ == "__main__":
    unittest.main()
