import inspect
import random
import re
import unittest

from staged import reading
from staged.errors import InvalidText, NotText
from staged.programs import is_program
from staged.reading import read_plain, read_program
from staged.staging import staged
from staged.texts import write_plain, write_program
from tests.samples import FOUR, POWER, VALUES, chain, random_plain, random_program
from tests.scribe import read

MOST = 10 ** 30
EARLY, ONE = ("early",), ("number", 1)
A, B, C, D = [("late", index) for index in range(4)]
OTHERS = "; one(e) = 1; uno(e | a) = 1; duo(e | a, b) = 1; all(e | a, b, c, d) = 1"
PLAIN_OTHERS = "; one_0() = 1; uno_0(a) = 1; duo_0(a, b) = 1; all_0(a, b, c, d) = 1"
POWER_TEXT = "pow(e | a) = (if e < 1 then 1 else (a * pow(e - 1 | a)))"


def body(text):
    """Return the body that a text names, of a function with four late numbers."""
    return read_program(f"f(e | a, b, c, d) = {text}{OTHERS}")[0][2]


def plain_body(text):
    return read_plain(f"f_0(a, b, c, d) = {text}{PLAIN_OTHERS}")[0][2]


def parts_of(text):
    """Return the words, numbers and marks of a good text."""
    return re.findall("[a-z0-9_]+|[^ ]", text)


def spread(rng, parts):
    """Return a text of these parts, with none or any number of spaces between them where that is allowed."""
    text = ""
    for one, other in zip(parts, parts[1:] + [""]):
        least = one[-1].isalnum() and other[:1].isalnum()
        text += one + " " * max(least, rng.choice((0, 0, 1, 2, 7)))
    return " " * rng.choice((0, 1, 5)) + text


class ReadingTest(unittest.TestCase):
    def refuses(self, function, *wrong):
        for text in wrong:
            with self.assertRaises(InvalidText, msg=text[:200]):
                function(text)

    def refuses_bodies(self, *wrong):
        self.refuses(body, *wrong)

    def refuses_plain_bodies(self, *wrong):
        self.refuses(plain_body, *wrong)


class ReadProgramTest(ReadingTest):
    def test_interface(self):
        for name in ("read_program", "read_plain"):
            with self.subTest(name):
                self.assertEqual(str(inspect.signature(getattr(reading, name))), "(text)")
                self.assertEqual(getattr(reading, name).__module__, "staged.reading")

    def test_whole_programs(self):
        for program in (POWER, FOUR):
            self.assertEqual(read_program(write_program(program)), program)
        self.assertEqual(read_program(POWER_TEXT), POWER)
        self.assertEqual(read_program("one(e)=(if e mod 2=1 then 1 else two(7)); two(e) = e"), (
            ("one", 0, ("if", ("rest", 2, 1), ONE, ("call", "two", ("give", 7), ()))), ("two", 0, EARLY)))

    def test_heads(self):
        letters = ("", " | a", " | a, b", " | a, b, c", " | a, b, c, d")
        for lates, inside in enumerate(letters):
            self.assertEqual(read_program(f"f(e{inside}) = 1"), (("f", lates, ONE),))
        for head in ("f()", "f", "f(a)", "f(e |)", "f(e | )", "f(| a)", "f(e | b)", "f(e | a, c)", "f(e | b, a)",
                     "f(e | a, a)", "f(e | a b)",
                     "f(e | a,)", "f(e | a, b, c, d, e)", "f(e | a, b, c, d,)", "f(e | a, b, c, d, d)", "f(e, a)",
                     "f(e a)", "f(e | e)",
                     "f(e | 1)", "f(1)", "f(e", "fe)", "f((e))", "(e)", "f(e)(e)", "f(e + 1)", "e(e)", "f f(e)",
                     "f(e | a | b)", "f(e | abc)", "7(e)",
                     "f(e | a, b, c, d) f"):
            self.refuses(read_program, f"{head} = 1", f"{head}=1{OTHERS}")
        self.refuses(read_program, "f(e) 1", "f(e) == 1", "f(e) =", "f(e) = = 1", "f(e) < 1", "f(e)")

    def test_as_many_letters_as_there_are_late_numbers(self):
        inside = ("", " | a", " | a, b", " | a, b, c", " | a, b, c, d")
        for lates in range(5):
            for late, letter in enumerate("abcd"):
                text = f"f(e{inside[lates]}) = {letter}"
                if late < lates:
                    self.assertEqual(read_program(text), (("f", lates, ("late", late)),))
                else:
                    self.refuses(read_program, text)

    def test_names(self):
        for name in ("f", "z", "fe", "ab", "ee", "iff", "mo", "elses", "abcdefgh", "then" * 2):
            self.assertEqual(read_program(f"{name}(e) = {name}(e)"), ((name, 0, ("call", name, ("move", 0), ())),))
        for name in ("a", "b", "c", "d", "e", "if", "then", "else", "mod", "abcdefghi", "F", "f1", "f_1", "1f", "_",
                     "f-g", "", "f.g", "\u00e9"):
            self.refuses(read_program, f"{name}(e) = 1", f"g(e) = {name}(e); {name}(e) = 1")

    def test_functions(self):
        eight = "; ".join(f"{name}(e) = 1" for name in "fghijklm")
        self.assertEqual([name for name, _, _ in read_program(eight)], list("fghijklm"))
        self.refuses(read_program, eight + "; n(e) = 1", "f(e) = 1; f(e) = 1", "f(e) = 1;", "; f(e) = 1",
                     "f(e) = 1;; g(e) = 1",
                     "f(e) = 1, g(e) = 1", "f(e) = 1 g(e) = 1", "f(e) = 1: g(e) = 1", "", " ", "    ", ";", "f", "1",
                     "e", "(", ")")

    def test_numbers(self):
        for text, number in (("0", 0), ("1", 1), ("10", 10), ("1000000", 1000000)):
            self.assertEqual(body(text), ("number", number))
        self.refuses_bodies("00", "01", "007", "0000000", "1000001", "9" * 31, "9" * 32, "9" * 5000,
                            "1" + "0" * 100000, "-1", "+1", "1.0", "1_0", "1e3",
                            "0x1", "1 0", "\u0661", "\u00b2", "()", "(1)", "")

    def test_leaves(self):
        self.assertEqual([body(text) for text in "eabcd"], [EARLY, A, B, C, D])
        self.refuses_bodies("f", "z", "ab", "E", "A", "(e)", "(a)", "early", "if", "then", "mod", "e e", "a b", "a,",
                            "a;", "|", "=", "<", "_")

    def test_operations(self):
        self.assertEqual(body("(a + 1)"), ("plus", A, ONE))
        self.assertEqual(body("(a - e)"), ("minus", A, EARLY))
        self.assertEqual(body("((a + b) * ((c * d) - 1))"), ("times", ("plus", A, B), ("minus", ("times", C, D), ONE)))
        self.refuses_bodies("a + 1", "(a + 1", "a + 1)", "(a +)", "(+ a)", "(a 1)", "(a + 1 + 2)", "((a + 1))",
                            "(a / 1)", "(a ++ 1)", "(a < 1)",
                            "(a = 1)", "(a + )", "( + 1)", "(a, 1)", "(a | 1)", "(a + 1))", "(a + (1))", "e + 1",
                            "a * b", "(a ** 2)", "(a + -1)",
                            "(a + 1)(a + 1)", "(a + 1) (a + 1)", "()", "(", "(a", "(a +", "(a + 1,")

    def test_ifs(self):
        self.assertEqual(body("(if a < 1 then a else 1)"), ("if", ("less", A, ONE), A, ONE))
        self.assertEqual(body("(if e < (a + 1) then (if e < 0 then a else b) else 1)"),
                         ("if", ("less", EARLY, ("plus", A, ONE)), ("if", ("below", 0), A, B), ONE))
        self.refuses_bodies("if a < 1 then a else 1", "(if a < 1 then a)", "(if a < 1 else a)", "(if then a else 1)",
                            "(if a then a else 1)",
                            "(if (a < 1) then a else 1)", "(if a < 1 then a else 1 else 1)", "(a < 1 then a else 1)",
                            "(if a > 1 then a else 1)",
                            "(if a = 1 then a else 1)", "(if a < 1 a else 1)", "(if a < 1 then a 1)",
                            "(if a < 1 < 2 then a else 1)",
                            "(if a < then a else 1)", "(if < a then a else 1)", "(if a < 1 then else 1)",
                            "(if a < 1 then a else)",
                            "(if a < 1 then a else 1", "(if", "(if a < 1", "(if a < 1 then",
                            "(if a < 1 then a else 1) + 1")

    def test_belows(self):
        for number in (0, 1, 5, 1000):
            self.assertEqual(body(f"(if e < {number} then a else b)"), ("if", ("below", number), A, B))
        self.refuses_bodies("(if e < 1001 then a else b)", "(if e < 01 then a else b)", "(if e < -1 then a else b)",
                            "(if e < (5) then a else b)",
                            "(if 5 < e then a else b)", "(if e < e then a else b)", "(if e < (2 + 3) then a else b)",
                            "(if (e + 1) < 5 then a else b)",
                            "(if 1 < 2 then a else b)", "(if e < 5 + 1 then a else b)", "(if e < 5 < 6 then a else b)",
                            "(if e 5 then a else b)",
                            f"(if e < {MOST} then a else b)", "(if e <= 5 then a else b)")

    def test_what_begins_as_a_below_but_is_none(self):
        for text, other in (("a", A), ("(5 + a)", ("plus", ("number", 5), A)),
                            ("one(e)", ("call", "one", ("move", 0), ())),
                            ("(if e < 5 then a else 5)", ("if", ("below", 5), A, ("number", 5)))):
            self.assertEqual(body(f"(if e < {text} then a else b)"), ("if", ("less", EARLY, other), A, B))

    def test_rests(self):
        for divisor in range(2, 7):
            for rest in range(divisor):
                self.assertEqual(body(f"(if e mod {divisor} = {rest} then a else b)"),
                                 ("if", ("rest", divisor, rest), A, B))
            self.refuses_bodies(f"(if e mod {divisor} = {divisor} then a else b)")
        self.refuses_bodies("(if e mod 1 = 0 then a else b)", "(if e mod 7 = 0 then a else b)",
                            "(if e mod 0 = 0 then a else b)",
                            "(if e mod 2 then a else b)", "(if a mod 2 = 1 then a else b)",
                            "(if e mod a = 1 then a else b)",
                            "(if e mod 2 = a then a else b)", "(if e mod 2 < 1 then a else b)",
                            "(if e mod = 1 then a else b)", "(if e mod 2 = then a else b)",
                            "(if e mod 02 = 1 then a else b)", "(if e mod 2 = 01 then a else b)",
                            "(if mod 2 = 1 then a else b)", "(e mod 2)",
                            "(if e mod 2 == 1 then a else b)", "(if e mod 2 = 1 = 1 then a else b)")

    def test_calls(self):
        self.assertEqual(body("one(e)"), ("call", "one", ("move", 0), ()))
        self.assertEqual(body("uno(e | a)"), ("call", "uno", ("move", 0), (A,)))
        self.assertEqual(body("duo(3 | (a + 1), uno(e | one(e + 1)))"), ("call", "duo", ("give", 3), (
            ("plus", A, ONE), ("call", "uno", ("move", 0), (("call", "one", ("move", 1), ()),)))))
        self.assertEqual(body("all(e - 5 | d, c, b, a)"), ("call", "all", ("move", -5), (D, C, B, A)))
        self.refuses_bodies("one", "one()", "one(|)", "one(e |)", "one(e | a)", "uno(e)", "uno(e |)", "uno(e | a, b)",
                            "duo(e | a)", "duo(e | a, b, c)",
                            "duo(e | a b)", "duo(e | a,)", "duo(e | , a)", "duo(e, a | b)", "duo(e | a | b)",
                            "uno(| a)", "uno(a | a)", "uno(a)",
                            "uno((e) | a)", "none(e)", "all(e | a, b, c, d, a)", "one(e", "one(e))", "one e",
                            "one(e | )", "uno(e | a", "(one(e))",
                            "one(one(e))", "uno(e | less)")

    def test_moves(self):
        for text, move in (("0", ("give", 0)), ("7", ("give", 7)), ("1000", ("give", 1000)), ("e", ("move", 0)),
                           *[(f"e + {number}", ("move", number)) for number in range(1, 6)],
                           *[(f"e - {number}", ("move", -number)) for number in range(1, 6)]):
            self.assertEqual(body(f"one({text})"), ("call", "one", move, ()))
            self.assertEqual(body(f"uno({text}|1)"), ("call", "uno", move, (ONE,)))
        self.refuses_bodies(*[f"one({text})" for text in (
            "1001", "01", "-1", "e + 0", "e - 0", "e + 6", "e - 6", "e + 1000000", "e * 2", "e + a", "e + e", "1 + e",
            "2 - e", "(e + 2)", "(e - 2)", "e 2",
            "e + 02", "e + -2", "e - - 2", "e + 1 + 1", "e +", "+ 2", "e2", "a", "a + 1", "one(e)", "e - one(e)",
            f"e + {MOST}", "9" * 5000)])

    def test_spaces(self):
        rng = random.Random(48)
        for program in (POWER, FOUR):
            for _ in range(50):
                self.assertEqual(read_program(spread(rng, parts_of(write_program(program)))), program)
        tight = "pow(e|a)=(if e<1then 1else(a*pow(e-1|a)))"
        self.refuses(read_program, tight)
        self.assertEqual(read_program("pow(e|a)=(if e<1 then 1 else(a*pow(e-1|a)))"), POWER)
        loose = "   pow  (  e  |  a  )  =  (  if  e  <  1  then  1  else  (  a  *  pow  (  e  -  1  |  a  )  )  )   "
        self.assertEqual(read_program(loose), POWER)

    def test_spaces_within_words_and_numbers(self):
        for one, other in (("pow", "po w"), ("pow", "p ow"), ("if", "i f"), ("then", "th en"), ("else", "el se")):
            self.refuses(read_program, POWER_TEXT.replace(one, other))
        self.refuses_bodies("1 0", "10 0", "1 00000", "(a + 1 0)", "one(1 0)", "one(e + 1 0)",
                            "(if e m od 2 = 1 then a else b)", "(if e < 1 0 then a else b)")

    def test_words_and_numbers_next_to_each_other_need_a_space(self):
        for text in ("(ife < 1 then 1 else 1)", "(if e < 1then 1 else 1)", "(if e < 1 then1 else 1)",
                     "(if e < 1 then 1else 1)",
                     "(if e < 1 then 1 else1)", "(if e mod2 = 1 then 1 else 1)", "(if emod 2 = 1 then 1 else 1)",
                     "(if a < bthen 1 else 1)",
                     "(if a < 1 thenone(e)else 1)", "(if e mod 2 = 1then 1 else 1)"):
            self.refuses_bodies(text)
        for text in ("(if(a + 1)<b then(a+b)else(a+b))", "(if one(e)<1 then(a+b)else one(e))"):
            self.assertEqual(body(text)[0], "if")

    def test_only_spaces_are_spaces(self):
        for sign in ("\n", "\t", "\r", "\u00a0", "\u2003", "\x00", "\x0b", "\u200b", "", "_"):
            if sign:
                self.refuses(read_program, POWER_TEXT.replace(" ", sign), POWER_TEXT + sign, sign + POWER_TEXT,
                             POWER_TEXT.replace("= ", f"={sign}"))

    def test_other_signs(self):
        for sign in "[]{}:.!?/%&\"'\\^~$#@>`" + "ABE" + "\u00e9\u0430\u03b1\uff41\uff10\ud800":
            self.refuses(read_program, POWER_TEXT + sign, POWER_TEXT.replace("a", sign), f"f(e) = {sign}",
                         f"f(e) = (1 {sign} 1)", sign)

    def test_depth(self):
        for depth, fits in ((1, True), (29, True), (30, True), (31, False), (32, False)):
            for text in ("(" * (depth - 1) + "a" + " + 1)" * (depth - 1),
                         "(1 * " * (depth - 1) + "a" + ")" * (depth - 1),
                         "uno(e | " * (depth - 1) + "a" + ")" * (depth - 1)):
                if fits:
                    self.assertTrue(body(text))
                else:
                    self.refuses_bodies(text)
        self.assertEqual(body("(" * 29 + "a" + " + 1)" * 29), chain(30))
        for tests, fits in ((27, True), (28, True), (29, False), (30, False)):
            text = "(if a < b then 1 else " * tests + "a" + ")" * tests
            if fits:
                self.assertTrue(body(text))
            else:
                self.refuses_bodies(text)

    def test_tests_count_as_depth(self):
        for depth in (27, 28, 29):
            inner = "(" * (depth - 1) + "a" + " + 1)" * (depth - 1)
            for text in (f"(if {inner} < b then 1 else 1)", f"(if b < {inner} then 1 else 1)"):
                if depth < 29:
                    self.assertTrue(body(text))
                else:
                    self.refuses_bodies(text)
        self.assertTrue(body("(1 + " * 28 + "(if e < 1 then a else b)" + ")" * 28))
        self.refuses_bodies("(1 + " * 29 + "(if e < 1 then a else b)" + ")" * 29)

    def test_texts_nested_much_deeper(self):
        openings = ("(", "(1 + ", "((1 + 1) * ", "f(", "f(e | ", "f(e + 1 | 1, ", "(if ", "(if 1 < ", "(if e < ",
                    "(if e < 1 then ",
                    "(if e < 1 then 1 else ", "(if e mod 2 = 1 then (1 + ", "(1 + (if e < 1 then ")
        for many in (100, 1000, 100000):
            self.refuses(read_program,
                         ")" * many, "(" * many, *[f"f(e | a) = {opening * many}" for opening in openings])
            self.refuses(read_program, "f(e) = " + "(" * many + "1" + " + 1)" * many,
                         "f(e | a) = " + "f(e | " * many + "a" + ")" * many,
                         "f(e) = " + "(if e < 1 then " * many + "1" + " else 1)" * many,
                         "f(e) = " + "(if e < 1 then 1 else " * many + "1" + ")" * many)

    def test_long_texts(self):
        many = 100000
        for text in ("f(e)=" + "(1+1)" * many, "f(e) = 1" + " " * many, " " * many + "f(e) = 1", "f" * many,
                     "f(e) = " + "1 " * many, "f(e) = 1" + ";" * many,
                     "f(e) = 1; " * many, "f(e) = f(e | " + "1, " * many + "1)", "e" * many, "_" * many):
            if text.strip() == "f(e) = 1":
                self.assertEqual(read_program(text), (("f", 0, ONE),))
            else:
                self.refuses(read_program, text)

    def test_nodes(self):
        def total(many):
            return "a" if many == 1 else f"({total(many // 2)} + {total(many - many // 2)})"

        for many, extra, fits in ((150, "", True), (150, "; g(e) = 1", True), (150, "; g(e) = 1; h(e) = 1", False),
                                  (151, "", False)):
            text = f"f(e | a) = {total(many)}{extra}"
            if fits:
                self.assertEqual(write_program(read_program(text)), text)
            else:
                self.refuses(read_program, text)

    def test_random_programs(self):
        rng = random.Random(49)
        many = 0
        for _ in range(600):
            program = random_program(rng, rng.randint(1, 7))
            if is_program(program):
                many += 1
                text = write_program(program)
                self.assertEqual(read_program(text), program)
                self.assertEqual(read_program(spread(rng, parts_of(text))), program)
        self.assertGreater(many, 400)

    def test_texts_with_a_fault(self):
        rng = random.Random(50)
        found = [0, 0]
        for _ in range(5000):
            program = random_program(rng, rng.randint(2, 4))
            if is_program(program):
                text = changed(rng, write_program(program))
                expected = read(text, False)
                found[expected is None] += 1
                with self.subTest(text=text):
                    if expected is None:
                        self.refuses(read_program, text)
                    else:
                        self.assertEqual(read_program(text), expected)
        self.assertGreater(min(found), 400)


def changed(rng, text):
    """Return a text with a part or a sign changed, taken out or put in."""
    if rng.random() < 0.4:
        at = rng.randrange(len(text) + 1)
        sign = rng.choice(" eab01(),|=<+-*;_fg")
        return rng.choice((text[:at] + sign + text[at:], text[:at] + sign + text[at + 1:], text[:at] + text[at + 1:]))
    parts = parts_of(text)
    at = rng.randrange(len(parts) + 1)
    part = rng.choice(parts + ["e", "a", "b", "0", "1", "7", "01", "mod", "if", "else"])
    parts = rng.choice((parts[:at] + [part] + parts[at:], parts[:at] + [part] + parts[at + 1:],
                        parts[:at] + parts[at + 1:]))
    return rng.choice((" ".join(parts), spread(rng, parts) if parts else ""))


class ReadPlainTest(ReadingTest):
    def test_whole_programs(self):
        plain = staged(POWER, "pow", 3)
        self.assertEqual(read_plain(write_plain(plain)), plain)
        self.assertEqual(read_plain("pow_3(a) = (a * pow_2(a)); pow_2(a) = 1"), (
            ("pow_3", 1, ("times", A, ("call", "pow_2", (A,)))), ("pow_2", 1, ONE)))
        self.assertEqual(read_plain("f_0(a,b) = (a-b)"), (("f_0", 2, ("minus", A, B)),))
        self.assertEqual(read_plain("one_0() = 1"), (("one_0", 0, ONE),))

    def test_heads(self):
        for lates, inside in enumerate(("", "a", "a, b", "a, b, c", "a, b, c, d")):
            self.assertEqual(read_plain(f"f_0({inside}) = 1"), (("f_0", lates, ONE),))
        for head in ("f_0", "f_0(e)", "f_0(e | a)", "f_0(| a)", "f_0(b)", "f_0(a b)", "f_0(a,)", "f_0(,)",
                     "f_0(a, b, c, d, e)", "f_0(a, b, c, d,)", "f_0(1)",
                     "f_0(a, c)", "f_0(ab)", "f_0(()", "f_0(a", "(a)", "f_0 f_0(a)", "f_0(a)(a)", "f(a)", "f (a)"):
            self.refuses(read_plain, f"{head} = 1", f"{head} = 1{PLAIN_OTHERS}")

    def test_names(self):
        for name in ("f_0", "pow_10", "abcdefgh_10000000", "z_9", "fe_1"):
            self.assertEqual(read_plain(f"{name}() = {name}()"), ((name, 0, ("call", name, ())),))
        for name in ("f", "f_", "_0", "f_01", "f_00", "f_10000001", "f_100000000", "a_0", "e_0", "if_0", "mod_1",
                     "abcdefghi_0", "f_0_0", "f__0", "F_0", "f0",
                     "f_x", "f_1x", "f_-1", "0_f", "f _0", "f_ 0", "f _ 0", "f_1 0", "\u00e9_0"):
            self.refuses(read_plain, f"{name}() = 1", f"g_0() = {name}(); {name}() = 1")

    def test_expressions(self):
        self.assertEqual([plain_body(text) for text in "abcd"], [A, B, C, D])
        for number in (0, 1, 1000001, MOST):
            self.assertEqual(plain_body(str(number)), ("number", number))
        self.assertEqual(plain_body("(if 3 < a then (a + b) else one_0())"),
                         ("if", ("less", ("number", 3), A), ("plus", A, B), ("call", "one_0", ())))
        self.assertEqual(plain_body("(if 1 < 1 then 1 else 1)"), ("if", ("less", ONE, ONE), ONE, ONE))
        self.assertEqual(plain_body("duo_0(uno_0(a), all_0(a, b, c, d))"), ("call", "duo_0", (
            ("call", "uno_0", (A,)), ("call", "all_0", (A, B, C, D)))))
        self.refuses_plain_bodies(str(MOST + 1), "9" * 31, "1" + "0" * 31, "0" * 31, "01", "9" * 5000, "e", "(e + 1)",
                                  "(if e < 5 then 1 else 1)", "(if e mod 2 = 1 then 1 else 1)",
                                  "(if a mod 2 = 1 then 1 else 1)", "one_0", "one_0(e)", "one_0(1)", "uno_0()",
                                  "uno_0(e | a)", "uno_0(| a)", "uno_0(a, b)",
                                  "duo_0(a)", "duo_0(a,)", "duo_0(a b)", "duo_0(, a)", "none_0()", "one()", "(a)",
                                  "a + b", "(a + b", "one_0(", "one_0((", "all_0(a, b, c, d, a)",
                                  "f_0()", "", "one_0()()", "(one_0())", "uno_0(a | b)")

    def test_functions(self):
        many = "; ".join(f"f_{at}() = f_{299 - at}()" for at in range(300))
        self.assertEqual(write_plain(read_plain(many)), many)
        self.refuses(read_plain, many + "; f_300() = 1", "f_0() = 1; f_0() = 1", "f_0() = 1;", ";", "", " ",
                     "f_0() = 1 f_1() = 1")

    def test_spaces(self):
        rng = random.Random(51)
        plain = staged(POWER, "pow", 3)
        for _ in range(50):
            self.assertEqual(read_plain(spread(rng, parts_of(write_plain(plain)))), plain)
        self.assertEqual(read_plain("f_0(a)=(if a<1 then f_0(1)else f_0(2))")[0][0], "f_0")
        self.refuses(read_plain, "f_0(a)=(if a<1 thenf_0(1)else f_0(2))", "f_0(a)=(if a<1then f_0(1)else f_0(2))",
                     "f_0(a)=(ifa<1 then f_0(1)else f_0(2))")

    def test_depth(self):
        for depth, fits in ((30, True), (31, False), (1000, False), (100000, False)):
            for text in ("(" * (depth - 1) + "a" + " + 1)" * (depth - 1),
                         "uno_0(" * (depth - 1) + "a" + ")" * (depth - 1)):
                if fits:
                    self.assertTrue(plain_body(text))
                else:
                    self.refuses_plain_bodies(text)
        self.refuses(read_plain, "(" * 100000, "f_0() = " + "(" * 100000, "f_0() = " + "f_0(" * 100000,
                     "f_0() = " + "(if " * 100000)

    def test_many_nodes(self):
        def total(many):
            return "a" if many == 1 else f"({total(many // 2)} + {total(many - many // 2)})"

        for many in (151, 1000, 20000):
            text = f"f_0(a) = {total(many)}"
            self.assertEqual(write_plain(read_plain(text)), text)

    def test_random_ones(self):
        rng = random.Random(52)
        for _ in range(600):
            plain = random_plain(rng, rng.randint(1, 7))
            text = write_plain(plain)
            self.assertEqual(read_plain(text), plain)
            self.assertEqual(read_plain(spread(rng, parts_of(text))), plain)

    def test_texts_with_a_fault(self):
        rng = random.Random(53)
        found = [0, 0]
        for _ in range(4000):
            text = changed(rng, write_plain(random_plain(rng, rng.randint(2, 4))))
            expected = read(text, True)
            found[expected is None] += 1
            with self.subTest(text=text):
                if expected is None:
                    self.refuses(read_plain, text)
                else:
                    self.assertEqual(read_plain(text), expected)
        self.assertGreater(min(found), 400)


class WrongArgumentsTest(ReadingTest):
    def test_values_that_are_no_texts(self):
        for function in (read_program, read_plain):
            for value in VALUES + (POWER, list(POWER), [POWER_TEXT], (POWER_TEXT,), {POWER_TEXT: 1}, b"f(e) = 1",
                                   10 ** 5000):
                with self.assertRaises(InvalidText if isinstance(value, str) else NotText):
                    function(value)

    def test_texts_of_the_other_kind(self):
        self.refuses(read_plain, POWER_TEXT, "f(e) = 1")
        self.refuses(read_program, "f_0() = 1", "pow_1(a) = (a * pow_0(a)); pow_0(a) = 1")


if __name__ == "__main__":
    unittest.main()
