import inspect
import random
import unittest

from staged import codes
from staged.codes import compiled, plain_of
from staged.errors import BadCode, BadPlain, TooMany
from staged.machines import deepest, heights, machine_run
from staged.plains import is_plain
from staged.staging import staged
from tests.arguments import Argument, check_arguments
from tests.coder import code_of, is_code, read_code
from tests.samples import POWER, VALUES, chain, doubled, nested, random_plain, replacements

MOST = 10 ** 30
LATE, ONE, NOTHING = ("late", 0), ("number", 1), ("number", 0)
OTHERS = (("one_0", 1, LATE), ("none_0", 0, NOTHING), ("two_0", 2, LATE))
LAST = (("back",), ("arg", 0), ("back",), ("push", 0), ("back",))
IF = ("if", ("less", LATE, ONE), ("number", 2), ("number", 3))


def code(body, lates=4):
    """Return the instructions of a function with this body, which may call one, none and two."""
    entries, instructions = compiled((("f_0", lates, body),) + OTHERS)
    return instructions[:entries[1][0]]


def call(name, *handed):
    return ("call", name, handed)


def numbered(plain):
    """Return a plain program with functions named f_0, f_1, .. instead."""
    names = {function[0]: f"f_{at}" for at, function in enumerate(plain)}

    def renamed(value):
        if type(value) is not tuple:
            return value
        if len(value) == 3 and value[0] == "call":
            return ("call", names[value[1]], renamed(value[2]))
        return tuple(map(renamed, value))

    return tuple((names[name], lates, renamed(body)) for name, lates, body in plain)


class CompiledTest(unittest.TestCase):
    def test_interface(self):
        for name, shape in {"compiled": "(plain)", "plain_of": "(code)"}.items():
            with self.subTest(name):
                self.assertEqual(str(inspect.signature(getattr(codes, name))), shape)
                self.assertEqual(getattr(codes, name).__module__, "staged.codes")

    def test_entries(self):
        self.assertEqual(compiled((("f_0", 4, ONE),) + OTHERS)[0], ((0, 4), (2, 1), (4, 0), (6, 2)))
        self.assertEqual(compiled((("f_0", 0, NOTHING),)), (((0, 0),), (("push", 0), ("back",))))

    def test_leaves(self):
        for number in (0, 1, MOST):
            self.assertEqual(code(("number", number)), (("push", number), ("back",)))
        for late in range(4):
            self.assertEqual(code(("late", late)), (("arg", late), ("back",)))

    def test_operations(self):
        for word in ("plus", "minus", "times"):
            self.assertEqual(code((word, ("late", 2), ("number", 5))), (("arg", 2), ("push", 5), (word,), ("back",)))
        self.assertEqual(code(("plus", ("minus", LATE, ONE), ("times", ("late", 1), LATE))), (
            ("arg", 0), ("push", 1), ("minus",), ("arg", 1), ("arg", 0), ("times",), ("plus",), ("back",)))

    def test_calls(self):
        self.assertEqual(code(call("none_0")), (("tail", 2),))
        self.assertEqual(code(call("two_0", LATE, ONE)), (("arg", 0), ("push", 1), ("tail", 3)))
        self.assertEqual(code(call("f_0", LATE, LATE, LATE, ONE)), (("arg", 0), ("arg", 0), ("arg", 0), ("push", 1),
            ("tail", 0)))
        self.assertEqual(code(("plus", call("none_0"), call("two_0", LATE, ONE))), (
            ("call", 2), ("arg", 0), ("push", 1), ("call", 3), ("plus",), ("back",)))
        self.assertEqual(code(call("one_0", call("one_0", call("none_0")))), (("call", 2), ("call", 1), ("tail", 1)))

    def test_ifs_in_the_last_place(self):
        self.assertEqual(code(IF), (
            ("arg", 0), ("push", 1), ("less",), ("zero", 6), ("push", 2), ("back",), ("push", 3), ("back",)))
        self.assertEqual(code(("if", ("less", LATE, ONE), call("none_0"), call("one_0", LATE))), (
            ("arg", 0), ("push", 1), ("less",), ("zero", 5), ("tail", 2), ("arg", 0), ("tail", 1)))
        self.assertEqual(code(("if", ("less", LATE, ONE), IF, call("none_0"))), (
            ("arg", 0), ("push", 1), ("less",), ("zero", 12), ("arg", 0), ("push", 1), ("less",), ("zero", 10),
            ("push", 2), ("back",),
            ("push", 3), ("back",), ("tail", 2)))

    def test_ifs_elsewhere(self):
        inner = (("arg", 0), ("push", 1), ("less",), ("zero", 6), ("push", 2), ("jump", 7), ("push", 3))
        self.assertEqual(code(("plus", IF, LATE)), inner + (("arg", 0), ("plus",), ("back",)))
        self.assertEqual(code(call("one_0", IF)), inner + (("tail", 1),))
        self.assertEqual(code(("if", ("less", IF, ONE), LATE, ONE)), inner + (
            ("push", 1), ("less",), ("zero", 12), ("arg", 0), ("back",), ("push", 1), ("back",)))
        self.assertEqual(code(("plus", ("if", ("less", LATE, ONE), call("none_0"), call("one_0", LATE)), ONE)), (
            ("arg", 0), ("push", 1), ("less",), ("zero", 6), ("call", 2), ("jump", 8), ("arg", 0), ("call", 1),
            ("push", 1), ("plus",), ("back",)))

    def test_addresses_count_from_the_first_function_on(self):
        plain = (("f_0", 0, NOTHING), ("f_1", 1, IF), ("f_2", 1, ("plus", IF, ONE)))
        entries, instructions = compiled(plain)
        self.assertEqual(entries, ((0, 0), (2, 1), (10, 1)))
        self.assertEqual([one for one in instructions if one[0] in ("zero", "jump")],
                         [("zero", 8), ("zero", 16), ("jump", 17)])

    def test_calls_tell_places_in_the_program(self):
        plain = tuple((f"go_{299 - at}", 0, call(f"go_{at}")) for at in range(300))
        self.assertEqual(compiled(plain)[1], tuple(("tail", 299 - at) for at in range(300)))

    def test_a_deepest_body(self):
        self.assertEqual(len(code(chain(30))), 60)
        deep = IF
        for _ in range(13):
            deep = ("if", ("less", deep, ONE), IF, LATE)
        for body in (("plus", deep, ONE), call("one_0", deep), ("if", ("less", LATE, ONE), LATE, deep)):
            plain = (("f_0", 4, body),) + OTHERS
            self.assertEqual(compiled(plain), code_of(plain))
        self.assertRaises(BadPlain, compiled, (("f_0", 4, ("plus", ("plus", deep, ONE), ONE)),) + OTHERS)

    def test_most_instructions(self):
        # Each function has 400 instructions, but for the last one, which has one.
        plain = tuple((f"f_{at}", 0, balanced(200)) for at in range(250))
        self.assertEqual(len(compiled(plain[:1])[1]), 400)
        self.assertEqual(len(compiled(plain)[1]), 100000)
        with self.assertRaises(TooMany) as caught:
            compiled(plain + (("g_0", 0, call("g_0")),))
        self.assertEqual(caught.exception.most, 100000)
        self.assertEqual(len(compiled(plain[1:] + (("g_0", 0, call("g_0")),))[1]), 99601)
        self.assertRaises(TooMany, compiled, (("f_0", 1, doubled(18)),))

    def test_random_ones(self):
        rng = random.Random(30)
        for _ in range(1000):
            plain = random_plain(rng, rng.randint(1, 7))
            with self.subTest(plain=plain):
                self.assertEqual(compiled(plain), code_of(plain))


def balanced(many):
    """Return a plain expression of numbers, with so many of them."""
    if many == 1:
        return ONE
    return ("plus", balanced(many // 2), balanced(many - many // 2))


class PlainOfTest(unittest.TestCase):
    def test_ordinary_ones(self):
        self.assertEqual(plain_of((((0, 1),), (("arg", 0), ("back",)))), (("f_0", 1, LATE),))
        plain = staged(POWER, "pow", 3)
        self.assertEqual(plain_of(compiled(plain)), numbered(plain))
        self.assertEqual(plain_of(compiled(OTHERS)), numbered(OTHERS))

    def test_each_kind_of_body(self):
        for body in (LATE, IF, ("plus", IF, IF), call("one_0", IF), call("two_0", IF, call("none_0")),
                     ("if", ("less", IF, IF), IF, IF),
                     ("minus", ("if", ("less", IF, IF), IF, IF), call("none_0")), call("f_0", *OTHERS[0][2:] * 4),
                     ("if", ("less", call("none_0"), IF), call("none_0"),
                      ("if", ("less", ONE, ONE), call("one_0", ONE), IF))):
            plain = (("f_0", 4, body),) + OTHERS
            self.assertEqual(plain_of(compiled(plain)), numbered(plain))

    def none_is(self, *instructions, entries=((0, 2),)):
        with self.subTest(instructions):
            self.assertIsNone(plain_of((entries, instructions)))

    def test_codes_of_no_plain_program(self):
        for instruction in (("push", 1), ("arg", 0), ("plus",), ("minus",), ("times",), ("less",), ("jump", 0),
                            ("zero", 0), ("back",),
                            ("call", 0)):
            self.none_is(instruction)
        self.none_is(("push", 1), ("push", 1), ("back",))
        self.none_is(("push", 1), ("plus",), ("back",))
        self.none_is(("push", 1), ("push", 1), ("less",), ("back",))
        self.none_is(("push", 1), ("back",), ("back",))
        self.none_is(("back",), ("push", 1), ("back",))
        self.none_is(("push", 1), ("push", 1), ("push", 1), ("tail", 0))
        self.none_is(("push", 1), ("tail", 0))
        self.none_is(("push", 1), ("push", 1), ("tail", 0), ("back",))
        self.none_is(("push", 1), ("push", 1), ("call", 0), ("back",))
        self.none_is(("push", 1), ("push", 1), ("tail", 0), ("push", 1), ("plus",), ("back",))

    def test_late_numbers_that_a_function_has_not(self):
        self.none_is(("arg", 2), ("back",))
        self.none_is(("arg", 0), ("back",), entries=((0, 0),))
        self.assertIsNotNone(plain_of((((0, 3),), (("arg", 2), ("back",)))))

    def test_ifs(self):
        test = (("push", 1), ("push", 2), ("less",))
        self.assertIsNotNone(plain_of((((0, 0),), test + (("zero", 6), ("push", 1), ("back",), ("push", 2),
            ("back",)))))
        for address in (0, 1, 2, 3, 4, 5, 7):
            self.none_is(*test, ("zero", address), ("push", 1), ("back",), ("push", 2), ("back",))
        self.none_is(*test, ("zero", 6), ("push", 1), ("jump", 7), ("push", 2), ("back",))
        self.none_is(("push", 1), ("zero", 4), ("push", 1), ("back",), ("push", 2), ("back",))
        self.none_is(*test[1:], ("zero", 5), ("push", 1), ("back",), ("push", 2), ("back",))
        self.none_is(*test, ("zero", 6), ("push", 1), ("push", 1), ("push", 2), ("back",))
        whole = test + (("zero", 6), ("push", 1), ("jump", 7), ("push", 2), ("push", 3), ("plus",), ("back",))
        self.assertIsNotNone(plain_of((((0, 0),), whole)))
        for at, others in ((3, [("zero", k) for k in range(10) if k != 6]),
                           (5, [("jump", k) for k in range(10) if k != 7])):
            for other in others:
                self.none_is(*whole[:at], other, *whole[at + 1:])
        self.none_is(("push", 1), *test, ("zero", 7), ("push", 1), ("back",), ("push", 2), ("back",))

    def test_functions_end_where_the_next_one_begins(self):
        instructions = (("push", 1), ("back",), ("push", 2), ("back",))
        self.assertIsNotNone(plain_of((((0, 0), (2, 0)), instructions)))
        for entries in (((0, 0),), ((0, 0), (1, 0)), ((0, 0), (3, 0)), ((0, 0), (1, 0), (2, 0)),
                        ((0, 0), (1, 0), (2, 0), (3, 0))):
            self.none_is(*instructions, entries=entries)
        reaching = (("push", 1), ("push", 1), ("less",), ("zero", 6), ("push", 1), ("back",), ("push", 2), ("back",))
        self.none_is(*reaching, entries=((0, 0), (6, 0)))
        self.assertIsNotNone(plain_of((((0, 0),), reaching)))

    def test_depth(self):
        def left(depth):
            return (((0, 1),), (("arg", 0),) + (("push", 1), ("plus",)) * (depth - 1) + (("back",),))

        self.assertEqual(plain_of(left(30)), (("f_0", 1, chain(30)),))
        for depth in (31, 32, 1000, 40000):
            self.assertIsNone(plain_of(left(depth)))

    def test_many_ifs_within_one_another(self):
        for many, fits in ((1, True), (27, True), (28, True), (29, False), (30, False), (31, False), (10000, False)):
            instructions = []
            for _ in range(many):
                at = len(instructions)
                instructions += [("arg", 0), ("arg", 0), ("less",), ("zero", at + 6), ("push", 1), ("back",)]
            instructions += [("push", 2), ("back",)]
            found = plain_of((((0, 1),), tuple(instructions)))
            self.assertIs(found is not None, fits, many)
            if fits:
                self.assertEqual(compiled(found)[1], tuple(instructions))
        for many in (1000, 16000):
            nest = (("arg", 0), ("arg", 0), ("less",), ("zero", 5 * many)) * many + (("push", 1), ("back",)) * many
            self.assertIsNone(plain_of((((0, 1),), nest)))

    def test_greatest_codes(self):
        self.assertIsNone(plain_of((((0, 1),), (("arg", 0),) * 100000)))
        self.assertIsNone(plain_of((((0, 1),), (("push", 1), ("back",)) * 50000)))
        many = tuple((f"f_{at}", 0, balanced(166)) for at in range(300))
        self.assertEqual(plain_of(compiled(many)), many)
        self.assertEqual(len(compiled(many)[1]), 99600)

    def test_random_plain_programs(self):
        rng = random.Random(31)
        for _ in range(700):
            plain = random_plain(rng, rng.randint(1, 7))
            with self.subTest(plain=plain):
                self.assertEqual(plain_of(compiled(plain)), numbered(plain))

    def test_codes_with_one_instruction_changed_taken_out_or_put_in(self):
        rng = random.Random(32)
        found = [0, 0]
        for _ in range(2500):
            plain = random_plain(rng, rng.randint(1, 4))[:2]
            if not is_plain(plain):
                continue
            entries, instructions = compiled(plain)
            if len(instructions) > 24:
                continue
            many = len(instructions)
            at = rng.randrange(many + 1)
            new = rng.choice([("push", 1), ("arg", rng.randrange(2)), ("plus",), ("less",), ("back",),
                              ("jump", rng.randrange(many)), (
                "zero", rng.randrange(many)), ("call", rng.randrange(len(entries))),
                ("tail", rng.randrange(len(entries)))])
            changed = rng.choice([instructions[:at] + instructions[at + 1:],
                                  instructions[:at] + (new,) + instructions[at:],
                                  instructions[:at] + (new,) + instructions[at + 1:]])
            value = (entries, changed)
            if is_code(value) is True:
                expected = read_code(value)
                found[expected is None] += 1
                with self.subTest(value=value):
                    self.assertEqual(plain_of(value), expected)
                    if expected is not None:
                        self.assertEqual(compiled(expected), value)
        self.assertGreater(min(found), 100)

    def test_random_codes(self):
        rng = random.Random(33)
        words = [("push", 1), ("arg", 0), ("plus",), ("less",), ("back",), ("call", 0), ("tail", 0), ("zero", 4),
                 ("zero", 5), ("zero", 6),
                 ("jump", 6), ("jump", 7)]
        some = 0
        for _ in range(20000):
            value = (((0, rng.randint(0, 1)),), tuple(rng.choice(words) for _ in range(rng.randint(1, 4))))
            if is_code(value) is True:
                expected = read_code(value)
                some += expected is not None
                self.assertEqual(plain_of(value), expected, value)
        self.assertGreater(some, 100)


SMALL = (((0, 1), (3, 0)), (("arg", 0), ("call", 1), ("tail", 0), ("push", 5), ("back",)))


class BadCodeTest(unittest.TestCase):
    def check(self, value, index):
        for function in (plain_of, heights, deepest, lambda one: machine_run(one, (1,), 0)):
            with self.assertRaises(BadCode) as caught:
                function(value)
            self.assertEqual((caught.exception.index, type(caught.exception.index)), (index, type(index)))

    def good(self, value):
        for function in (plain_of, lambda one: machine_run(one, (1,) * one[0][0][1], 0)):
            function(value)
        self.assertIs(is_code(value), True)

    def test_no_pairs(self):
        for value in ((), ((0, 1),), SMALL + ((),), SMALL[:1], list(SMALL), {0: SMALL}, 0, "ab", None, True, SMALL[0],
                      SMALL[1]):
            self.check(value, None)
        for value in VALUES:
            self.check(value, None)

    def test_entries(self):
        for entries in ((), ((1, 1),), ((0, 1), (0, 1)), ((0, 1), (3, 0), (2, 0)), ((0, 1), (5, 0)), ((0, 1), (-1, 0)),
                        ((0, 5),), ((0, -1),),
                        ((0, True),), ((False, 1),), ((0, None),), ((0,),), ((0, 1, 1),), ([0, 1],), [(0, 1)], {0: 1},
                        "a", 0, None, True,
                        ((0, 1), (3,)), ((0, 1), (3, 0), None), ((0, 1), (3, 5)), (0, 1), ((0, 1), nested(100000))):
            self.check((entries, SMALL[1][:1] * 5), None)
        for lates in range(5):
            self.good((((0, lates), (4, lates)), SMALL[1]))

    def test_many_entries(self):
        instructions = (("push", 1), ("back",)) * 151
        for many, fits in ((1, True), (300, True), (301, False), (302, False)):
            value = (tuple((at, 0) for at in range(many)), instructions)
            (self.good if fits else lambda one: self.check(one, None))(value)

    def test_tuples_of_instructions(self):
        for instructions in ((), [("back",)], {0: ("back",)}, "a", 0, None, True, nested(0)):
            self.check((((0, 0),), instructions), None)
        self.good((((0, 0),), (("back",),)))
        self.good((((0, 0),), (("back",),) * 100000))
        self.check((((0, 0),), (("back",),) * 100001), None)

    def test_what_is_wrong_with_the_pair_comes_ahead_of_instructions(self):
        self.check((((1, 0),), (None,)), None)
        self.check(((), (None,)), None)
        self.check((((0, 0), (1, 0)), (None,)), None)

    def test_the_first_instruction_that_is_none(self):
        for at in (0, 1, 4999, 99999):
            instructions = [("back",)] * 100000
            instructions[at] = ("stop",)
            self.check((((0, 0),), tuple(instructions)), at)
        self.check((((0, 0),), (("back",), None, ("back",), 7)), 1)

    def test_each_kind_of_instruction_with_its_least_and_greatest_numbers(self):
        bounds = {"push": MOST, "arg": 3, "jump": 4, "zero": 4, "call": 1, "tail": 1}
        for word, bound in bounds.items():
            for number, fits in ((0, True), (1, True), (bound, True), (bound + 1, False), (-1, False), (True, False),
                                 (False, False),
                                 (None, False), ("0", False), ((0,), False), (nested(100000), False)):
                value = (SMALL[0], SMALL[1][:4] + ((word, number),))
                with self.subTest(word, bound=bound):
                    (self.good if fits else lambda one: self.check(one, 4))(value)
            for one in ((word,), (word, 0, 0), (word, 0, None), [word, 0], {word: 0}):
                self.check((SMALL[0], SMALL[1][:4] + (one,)), 4)

    def test_greatest_addresses_and_functions(self):
        back = (("back",),)
        for word in ("jump", "zero"):
            self.good((((0, 0),), back * 99999 + ((word, 99999),)))
            self.check((((0, 0),), back * 99999 + ((word, 100000),)), 99999)
            self.check((((0, 0),), ((word, 1),)), 0)
        entries = tuple((at, 0) for at in range(300))
        for word in ("call", "tail"):
            self.good((entries, back * 299 + ((word, 299),)))
            self.check((entries, back * 299 + ((word, 300),)), 299)
            self.check((((0, 0),), ((word, 1),)), 0)

    def test_instructions_without_numbers(self):
        for word in ("plus", "minus", "times", "less", "back"):
            self.good((((0, 0),), ((word,),)))
            for one in ((word, 0), (word, None), (word, ()), [word], word, {word: 0}, ((word,),), (word, word)):
                self.check((((0, 0),), (one,)), 0)
        for one in ((), ("",), ("stop",), ("Plus",), ("push",), (None,), (0,), (True,), (["plus"],), None, 0, "", True,
                    [], {}, nested(100000)):
            self.check((((0, 0),), (("back",), one)), 1)

    def test_replaced_parts(self):
        others = tuple(value for value in VALUES if value != nested(100)) + (("back",), ("arg", 1), ("jump", 1),
            "plus", "back", 4)
        found = {}
        for value in replacements(SMALL, others):
            expected = is_code(value)
            found[expected] = True
            if expected is True:
                self.good(value)
            else:
                self.check(value, *expected)
        self.assertEqual(set(found), {True, (None,), (0,), (1,), (2,), (3,), (4,)})


class WrongArgumentsTest(unittest.TestCase):
    def test_arguments(self):
        check_arguments(self, compiled, Argument((("f_0", 1, LATE),), (("f_0", 1, ("late", 1)),), BadPlain))
        check_arguments(self, plain_of, Argument(SMALL, (SMALL[0], ()), BadCode))

    def test_too_many_comes_after_bad_plain(self):
        plain = tuple((f"f_{at}", 1, doubled(10)) for at in range(299))
        self.assertRaises(TooMany, compiled, plain)
        self.assertRaises(BadPlain, compiled, plain + (("f_0", 0, LATE),))


if __name__ == "__main__":
    unittest.main()
