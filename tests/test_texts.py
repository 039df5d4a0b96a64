import copy
import inspect
import random
import unittest

from staged import texts
from staged.errors import BadPlain, BadProgram
from staged.programs import is_program
from staged.staging import staged
from staged.texts import write_plain, write_program
from tests.arguments import Argument, check_arguments
from tests.samples import FOUR, POWER, chain, random_plain, random_program
from tests.scribe import write

MOST = 10 ** 30
EARLY, ONE = ("early",), ("number", 1)
A, B, C, D = [("late", index) for index in range(4)]
OTHERS = (("none", 0, ONE), ("uno", 1, ONE), ("duo", 2, ONE), ("all", 4, ONE))


def body(expression):
    """Return the text of the body of a function with four late numbers."""
    return write_program((("f", 4, expression),) + OTHERS).split("; ")[0].removeprefix("f(e | a, b, c, d) = ")


def plain_body(expression):
    others = tuple((f"{name}_0", lates, ONE) for name, lates, _ in OTHERS)
    return write_plain((("f_7", 4, expression),) + others).split("; ")[0].removeprefix("f_7(a, b, c, d) = ")


class WriteProgramTest(unittest.TestCase):
    def test_interface(self):
        for name, shape in {"write_program": "(program)", "write_plain": "(plain)"}.items():
            with self.subTest(name):
                self.assertEqual(str(inspect.signature(getattr(texts, name))), shape)
                self.assertEqual(getattr(texts, name).__module__, "staged.texts")

    def test_functions(self):
        program = tuple((name, lates, ONE) for lates, name in enumerate(("one", "two", "f", "pow", "abcdefgh")))
        self.assertEqual(write_program(program), "one(e) = 1; two(e | a) = 1; f(e | a, b) = 1; pow(e | a, b, c) = 1; "
                         "abcdefgh(e | a, b, c, d) = 1")
        self.assertEqual(write_program(program[:1]), "one(e) = 1")

    def test_leaves(self):
        self.assertEqual([body(one) for one in (EARLY, A, B, C, D)], ["e", "a", "b", "c", "d"])
        self.assertEqual([body(("number", number)) for number in (0, 7, 1000000)], ["0", "7", "1000000"])

    def test_operations(self):
        self.assertEqual(body(("plus", A, ONE)), "(a + 1)")
        self.assertEqual(body(("minus", A, EARLY)), "(a - e)")
        self.assertEqual(body(("times", ("plus", A, B), ("minus", ("times", C, D), ONE))), "((a + b) * ((c * d) - 1))")

    def test_ifs_and_tests(self):
        self.assertEqual(body(("if", ("below", 5), A, ONE)), "(if e < 5 then a else 1)")
        self.assertEqual(body(("if", ("rest", 3, 1), A, ONE)), "(if e mod 3 = 1 then a else 1)")
        self.assertEqual(body(("if", ("less", A, ONE), A, ONE)), "(if a < 1 then a else 1)")
        self.assertEqual(body(("if", ("less", EARLY, ("plus", A, ONE)), ("if", ("below", 0), A, B), ONE)),
                         "(if e < (a + 1) then (if e < 0 then a else b) else 1)")
        self.assertEqual(body(("plus", ("if", ("rest", 6, 5), A, ONE), ONE)), "((if e mod 6 = 5 then a else 1) + 1)")

    def test_calls(self):
        for move, text in ((("give", 0), "0"), (("give", 1000), "1000"), (("move", 0), "e"), (("move", 2), "e + 2"),
                           (("move", 5), "e + 5"), (("move", -2), "e - 2"), (("move", -5), "e - 5")):
            self.assertEqual(body(("call", "none", move, ())), f"none({text})")
            self.assertEqual(body(("call", "uno", move, (A,))), f"uno({text} | a)")
            self.assertEqual(body(("call", "all", move, (D, ONE, EARLY, A))), f"all({text} | d, 1, e, a)")
        inner = ("call", "uno", ("move", 0), (("call", "none", ("move", 1), ()),))
        self.assertEqual(body(("call", "duo", ("give", 3), (("plus", A, ONE), inner))),
                         "duo(3 | (a + 1), uno(e | none(e + 1)))")

    def test_whole_programs(self):
        self.assertEqual(write_program(POWER), "pow(e | a) = (if e < 1 then 1 else (a * pow(e - 1 | a)))")
        self.assertEqual(write_program(FOUR), (
            "first(e | a, b) = (if second(7 | e) < b then (a + third(e + 5)) else (e - 4)); "
            "second(e | a) = (if e mod 3 = 1 then a else (2 * a)); third(e) = (if e < 10 then e else 1000000); "
            "fourth(e | a, b, c, d) = fourth(e - 5 | d, c, b, a)"))

    def test_a_deepest_body(self):
        self.assertEqual(body(chain(30)), "(" * 29 + "a" + " + 1)" * 29)

    def test_random_programs(self):
        rng = random.Random(46)
        for _ in range(500):
            program = random_program(rng, rng.randint(1, 7))
            if is_program(program):
                self.assertEqual(write_program(program), write(program))


class WritePlainTest(unittest.TestCase):
    def test_functions(self):
        plain = tuple((name, lates, ONE) for lates, name in enumerate(("one_0", "f_7", "f_10", "pow_10000000",
            "abcdefgh_1")))
        self.assertEqual(write_plain(plain), "one_0() = 1; f_7(a) = 1; f_10(a, b) = 1; pow_10000000(a, b, c) = 1; "
                         "abcdefgh_1(a, b, c, d) = 1")

    def test_expressions(self):
        self.assertEqual([plain_body(one) for one in (A, B, C, D, ("number", 0), ("number", MOST))],
                         ["a", "b", "c", "d", "0", str(MOST)])
        self.assertEqual(plain_body(("times", ("plus", A, B), ("minus", ("times", C, D), ONE))),
                         "((a + b) * ((c * d) - 1))")
        self.assertEqual(plain_body(("if", ("less", ("number", 3), A), A, ("if", ("less", ONE, ONE), B, C))),
                         "(if 3 < a then a else (if 1 < 1 then b else c))")
        self.assertEqual(plain_body(("call", "none_0", ())), "none_0()")
        self.assertEqual(plain_body(("call", "duo_0", (("call", "uno_0", (A,)), ("plus", B, ONE)))),
                         "duo_0(uno_0(a), (b + 1))")

    def test_whole_programs(self):
        self.assertEqual(write_plain(staged(POWER, "pow", 1)), "pow_1(a) = (a * pow_0(a)); pow_0(a) = 1")

    def test_many_functions(self):
        plain = tuple((f"f_{at}", 0, ("call", f"f_{299 - at}", ())) for at in range(300))
        self.assertEqual(write_plain(plain), "; ".join(f"f_{at}() = f_{299 - at}()" for at in range(300)))

    def test_random_ones(self):
        rng = random.Random(47)
        for _ in range(500):
            plain = random_plain(rng, rng.randint(1, 7))
            self.assertEqual(write_plain(plain), write(plain))


class WrongArgumentsTest(unittest.TestCase):
    def test_arguments(self):
        plain = staged(POWER, "pow", 1)
        check_arguments(self, write_program, Argument(POWER, plain, BadProgram))
        check_arguments(self, write_plain, Argument(plain, POWER, BadPlain))
        for value in ("pow(e) = 1", list(POWER), POWER + POWER):
            self.assertRaises(BadProgram, write_program, value)
            self.assertRaises(BadPlain, write_plain, value)

    def test_arguments_are_not_changed(self):
        program, plain = copy.deepcopy(FOUR), copy.deepcopy(staged(POWER, "pow", 3))
        write_program(program), write_plain(plain)
        self.assertEqual((program, plain), (FOUR, staged(POWER, "pow", 3)))


if __name__ == "__main__":
    unittest.main()
