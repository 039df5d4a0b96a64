import copy
import inspect
import random
import unittest

from staged import needs
from staged.errors import BadPlain
from staged.needs import needless, settled, slimmed
from staged.plains import is_plain, plain_run
from staged.staging import staged
from tests.arguments import Argument, check_arguments
from tests.samples import POWER, chain, random_plain
from tests.slimmer import needless_pairs, settled_triples, slim_plain

MOST = 10 ** 30
ONE = ("number", 1)
A, B, C, D = [("late", index) for index in range(4)]


def call(name, *handed):
    return ("call", f"{name}_0", handed)


def number(value):
    return ("number", value)


def program(**bodies):
    """Return a plain program of functions with a number of late numbers and a body each."""
    return tuple((f"{name}_0", lates, body) for name, (lates, body) in bodies.items())


def pairs(*marks):
    """Return pairs for marks such as f1."""
    return tuple((f"{mark[:-1]}_0", int(mark[-1])) for mark in marks)


EXAMPLE = program(f=(1, call("g", A, number(5))), g=(2, B))


def random_shuffle(rng):
    """Return a random plain program of functions that mostly hand on late numbers."""
    names = "f g h k".split()[:rng.randint(1, 4)]
    lates = {name: rng.randint(0 if rng.random() < 0.2 else 2, 4) for name in names}

    def body(many, depth):
        leaves = [("late", index) for index in range(many)] * 3 + [number(rng.choice((0, 5, 5)))]
        if depth == 0 or rng.random() < 0.3:
            return rng.choice(leaves)
        kind = rng.choice(("plus", "if", "call", "call", "call", "call"))
        if kind == "plus":
            return ("plus", body(many, depth - 1), body(many, depth - 1))
        if kind == "if":
            return ("if", ("less", rng.choice(leaves), ONE), body(many, depth - 1), body(many, depth - 1))
        other = rng.choice(names)
        handed = [rng.choice(leaves) if rng.random() < 0.85 else body(many, depth - 1) for _ in range(lates[other])]
        return call(other, *handed)

    return program(**{name: (lates[name], body(lates[name], rng.randint(1, 3))) for name in names})


class NeedlessTest(unittest.TestCase):
    def test_interface(self):
        for name in ("needless", "slimmed", "settled"):
            with self.subTest(name):
                self.assertEqual(str(inspect.signature(getattr(needs, name))), "(plain)")
                self.assertEqual(getattr(needs, name).__module__, "staged.needs")

    def test_ordinary_ones(self):
        self.assertEqual(needless(EXAMPLE), pairs("f0", "g0"))
        self.assertEqual(needless(program(f=(1, A))), ())
        self.assertEqual(needless(program(f=(4, ("plus", B, D)))), pairs("f0", "f2"))
        self.assertEqual(needless(program(f=(0, ONE))), ())
        self.assertEqual(needless(staged(POWER, "pow", 3)), (("pow_0", 0),))

    def test_what_stands_outside_the_late_expressions_of_calls_is_needed(self):
        for body in (A, ("plus", A, ONE), ("times", ONE, ("minus", ONE, A)), ("if", ("less", A, ONE), ONE, ONE),
                     ("if", ("less", ONE, A), ONE, ONE), ("if", ("less", ONE, ONE), A, ONE),
                     ("if", ("less", ONE, ONE), ONE, A),
                     ("plus", call("g", ONE), A), ("times", number(0), A),
                     ("if", ("less", ("plus", ONE, A), ONE), ONE, ONE)):
            with self.subTest(body=body):
                self.assertEqual(needless(program(f=(1, body), g=(1, ONE))), pairs("g0"))

    def test_what_is_handed_on_for_a_needed_one(self):
        for handed in (A, ("plus", ONE, A), ("if", ("less", A, ONE), ONE, ONE), ("minus", ("times", A, A), ONE)):
            self.assertEqual(needless(program(f=(2, call("g", handed, B)), g=(2, A))), pairs("f1", "g1"))
            self.assertEqual(needless(program(f=(2, call("g", handed, B)), g=(2, B))), pairs("f0", "g0"))

    def test_a_call_within_a_late_expression_is_looked_at_by_itself(self):
        # The innermost call counts: what h hands on to it is needed, although it is of no use to g.
        plain = program(f=(1, call("g", call("h", A))), g=(1, ONE), h=(1, A))
        self.assertEqual(needless(plain), pairs("g0"))
        plain = program(f=(1, call("g", call("h", A))), g=(1, A), h=(1, ONE))
        self.assertEqual(needless(plain), pairs("f0", "h0"))
        plain = program(f=(2, call("g", ("plus", B, call("h", A)))), g=(1, ONE), h=(1, A))
        self.assertEqual(needless(plain), pairs("f1", "g0"))

    def test_late_numbers_that_are_handed_on_only_to_themselves(self):
        self.assertEqual(needless(program(f=(1, call("f", A)))), pairs("f0"))
        self.assertEqual(needless(program(f=(2, call("f", B, A)))), pairs("f0", "f1"))
        self.assertEqual(needless(program(f=(2, ("plus", ONE, call("g", A, B))), g=(2, ("plus", B, call("f", A, B))))),
                         pairs("f0", "g0"))

    def test_long_ways(self):
        line = tuple((f"f_{at}", 2, ("call", f"f_{at + 1}", (B, A))) for at in range(299)) + (("f_299", 2, A),)
        expected = sorted((f"f_{at}", int((299 - at) % 2 == 0)) for at in range(300))
        self.assertEqual(needless(line), tuple(expected))

    def test_pairs_are_ascending(self):
        plain = (("z_0", 1, ONE), ("bb_10", 2, ONE), ("bb_9", 1, ONE))
        self.assertEqual(needless(plain), (("bb_10", 0), ("bb_10", 1), ("bb_9", 0), ("z_0", 0)))

    def test_functions_that_the_start_cannot_come_to(self):
        plain = program(f=(1, ONE), g=(1, A), h=(2, call("g", B)))
        self.assertEqual(needless(plain), pairs("f0", "h0"))

    def test_deepest_bodies(self):
        self.assertEqual(needless(program(f=(1, chain(30)))), ())
        deep = A
        for _ in range(29):
            deep = call("g", deep)
        self.assertEqual(needless(program(f=(1, deep), g=(1, ONE))), pairs("f0", "g0"))

    def test_needless_ones_play_no_part(self):
        rng = random.Random(42)
        many = 0
        for _ in range(1500):
            plain = random_shuffle(rng)
            start, lates, _ = plain[0]
            numbers = [rng.choice((0, 1, 2, 5)) for _ in range(lates)]
            others = [1 - number if (start, at) in needless(plain) and number < 2 else number for at,
                      number in enumerate(numbers)]
            one, other = plain_run(plain, tuple(numbers), 200), plain_run(plain, tuple(others), 200)
            # What is worked out for it may take other steps, or never end: only values are the same.
            if one is not None and other is not None and numbers != others:
                many += 1
                self.assertEqual(one[0], other[0])
        self.assertGreater(many, 100)

    def test_random_ones(self):
        rng = random.Random(43)
        found = {}
        for _ in range(1500):
            plain = random_shuffle(rng) if rng.random() < 0.7 else random_plain(rng, rng.randint(1, 6))
            self.assertTrue(is_plain(plain))
            with self.subTest(plain=plain):
                self.assertEqual(needless(plain), needless_pairs(plain))
                self.assertEqual(slimmed(plain), slim_plain(plain))
                self.assertEqual(settled(plain), settled_triples(plain))
            found[(len(needless(plain)), slimmed(plain) == plain, len(settled(plain)))] = True
        self.assertGreater(len(found), 20)


class SlimmedTest(unittest.TestCase):
    def test_ordinary_ones(self):
        self.assertEqual(slimmed(EXAMPLE), program(f=(1, call("g", number(5))), g=(1, A)))
        self.assertEqual(slimmed(program(f=(1, A))), program(f=(1, A)))
        plain = program(f=(0, call("g", ONE, number(2), number(3), number(4))), g=(4, ("plus", B, D)))
        self.assertEqual(slimmed(plain), program(f=(0, call("g", number(2), number(4))), g=(2, ("plus", A, B))))
        self.assertEqual(slimmed(staged(POWER, "pow", 1)), (("pow_1", 1, ("times", A, ("call", "pow_0", ()))),
            ("pow_0", 0, ONE)))

    def test_the_start_s_late_numbers_stay(self):
        self.assertEqual(slimmed(program(f=(4, ONE), g=(4, ONE))), program(f=(4, ONE), g=(0, ONE)))
        plain = program(f=(2, call("f", ONE, number(2))))
        self.assertEqual(slimmed(plain), plain)

    def test_what_is_handed_on_for_the_start_s_stays(self):
        plain = program(f=(1, call("g", ONE, A)), g=(2, call("f", B)))
        self.assertEqual(slimmed(plain), program(f=(1, call("g", A)), g=(1, call("f", A))))

    def test_late_expressions_with_a_call_in_them(self):
        for handed in (call("h"), ("plus", ONE, call("h")), ("if", ("less", call("h"), ONE), ONE, ONE),
                       call("k", call("h"))):
            plain = program(f=(0, call("g", handed, ONE)), g=(2, ONE), h=(0, ONE), k=(1, A))
            with self.subTest(handed=handed):
                self.assertEqual(slimmed(plain), program(f=(0, call("g", handed)), g=(1, ONE), h=(0, ONE), k=(1, A)))
        # Some call is enough, and all the others hand on something, too.
        plain = program(f=(0, ("plus", call("g", ONE), call("g", call("h")))), g=(1, ONE), h=(0, ONE))
        self.assertEqual(slimmed(plain), plain)

    def test_a_call_that_is_never_come_to_counts(self):
        plain = program(f=(0, call("g", ONE)), g=(1, ONE), h=(0, call("g", call("h"))))
        self.assertEqual(slimmed(plain), plain)
        self.assertEqual(slimmed(plain[:2]), program(f=(0, call("g")), g=(0, ONE)))

    def test_what_stands_in_a_late_expression_for_one_that_stays_stays(self):
        plain = program(f=(1, call("g", A, ONE)), g=(2, call("h", ("plus", B, call("k", A)))), h=(1, ONE), k=(1, ONE))
        # h's stays for the call of k in it, so does g's second; k's goes, and with it g's first.
        self.assertEqual(slimmed(plain), program(f=(1, call("g", ONE)), g=(1, call("h", ("plus", A, call("k")))),
                                                 h=(1, ONE), k=(0, ONE)))

    def test_indexes_of_the_others_are_lessened(self):
        for kept in range(4):
            plain = program(f=(4, call("g", A, B, C, D)), g=(4, ("late", kept)))
            self.assertEqual(slimmed(plain), program(f=(4, call("g", ("late", kept))), g=(1, A)))
        plain = program(f=(4, call("g", A, B, C, D)), g=(4, ("plus", ("times", B, D), call("g", D, C, B, A))))
        self.assertEqual(slimmed(plain), program(f=(4, call("g", A, B, C, D)), g=(4, plain[1][2])))

    def test_calls_within_late_expressions(self):
        plain = program(f=(1, call("g", ONE, call("g", A, call("g", ONE, A)))), g=(2, B))
        self.assertEqual(slimmed(plain), program(f=(1, call("g", call("g", call("g", A)))), g=(1, A)))

    def test_many_functions(self):
        line = tuple((f"f_{at}", 2, ("call", f"f_{at + 1}", (B, A))) for at in range(299)) + (("f_299", 2, A),)
        slim = slimmed(line)
        self.assertEqual(slim[0], ("f_0", 2, ("call", "f_1", (A if 299 % 2 == 0 else B,))))
        self.assertEqual(slim[1:], tuple((f"f_{at}", 1, ("call", f"f_{at + 1}", (A,))) for at in range(1,
            299)) + (("f_299", 1, A),))

    def test_values_stay_and_steps_are_no_more(self):
        rng = random.Random(44)
        found = [0, 0]
        for _ in range(4000):
            plain = random_shuffle(rng) if rng.random() < 0.6 else random_plain(rng, rng.randint(2, 6))
            slim = slimmed(plain)
            self.assertTrue(is_plain(slim))
            lates = tuple(rng.choice((0, 1, 2, 5)) for _ in range(plain[0][1]))
            one, other = plain_run(plain, lates, 300), plain_run(slim, lates, 300)
            if one is not None:
                found[one[1] > other[1]] += 1
                self.assertEqual(one[0], other[0])
                self.assertLessEqual(other[1], one[1])
        self.assertGreater(min(found), 12)


class SettledTest(unittest.TestCase):
    def test_ordinary_ones(self):
        self.assertEqual(settled(EXAMPLE), (("g_0", 1, 5),))
        plain = program(f=(0, call("g", number(0), number(MOST), ("plus", ONE, ONE))), g=(3, ONE))
        self.assertEqual(settled(plain), (("g_0", 0, 0), ("g_0", 1, MOST)))

    def test_several_calls(self):
        for one, other, expected in ((5, 5, (("g_0", 0, 5),)), (5, 6, ()), (0, 1, ()), (1, 1, (("g_0", 0, 1),))):
            plain = program(f=(0, ("plus", call("g", number(one)), call("h"))), g=(1, A),
                            h=(0, call("g", number(other))))
            self.assertEqual(settled(plain), expected)
        plain = program(f=(1, ("plus", call("g", number(5)), call("g", A))), g=(1, A))
        self.assertEqual(settled(plain), ())
        self.assertEqual(settled(plain[:1] + (plain[1],)[::-1]), ())

    def test_own_late_numbers_themselves(self):
        plain = program(f=(0, call("g", number(5), ONE)), g=(2, call("g", A, B)))
        self.assertEqual(settled(plain), (("g_0", 0, 5), ("g_0", 1, 1)))
        plain = program(f=(0, call("g", number(5), ONE)), g=(2, call("g", B, A)))
        self.assertEqual(settled(plain), ())
        plain = program(f=(0, call("g", number(5), number(5))), g=(2, call("g", B, A)))
        self.assertEqual(settled(plain), ())
        plain = program(f=(0, call("g", number(5))), g=(1, call("g", ("plus", A, number(0)))))
        self.assertEqual(settled(plain), ())
        plain = program(f=(0, call("g", number(5))), g=(1, ("plus", call("g", number(5)), call("g", A))))
        self.assertEqual(settled(plain), (("g_0", 0, 5),))

    def test_another_s_late_number_of_that_index_is_not_its_own(self):
        plain = program(f=(0, call("g", number(5))), g=(1, call("h", A)), h=(1, call("g", A)))
        self.assertEqual(settled(plain), ())
        plain = program(f=(1, call("g", A)), g=(1, call("g", A)))
        self.assertEqual(settled(plain), ())

    def test_the_start_has_none(self):
        plain = program(f=(1, call("f", number(5))))
        self.assertEqual(settled(plain), ())
        plain = program(f=(1, call("g", number(3))), g=(1, call("f", number(5))))
        self.assertEqual(settled(plain), (("g_0", 0, 3),))

    def test_functions_that_the_start_cannot_come_to(self):
        plain = program(f=(0, ONE), g=(1, A), h=(0, call("g", number(5))))
        self.assertEqual(settled(plain), ())
        plain = program(f=(0, call("g", number(5))), g=(1, A), h=(0, call("g", number(6))), k=(1, call("k", A)))
        self.assertEqual(settled(plain), (("g_0", 0, 5),))

    def test_calls_anywhere(self):
        for body in (("plus", ONE, call("g", number(7))), call("h", call("g", number(7))),
                     ("if", ("less", call("g", number(7)), ONE), ONE, ONE)):
            plain = program(f=(0, ("times", call("g", number(6)), body)), g=(1, A), h=(1, A))
            self.assertNotIn("g_0", [name for name, _, _ in settled(plain)])
            plain = program(f=(0, ("times", call("g", number(7)), body)), g=(1, A), h=(1, A))
            self.assertIn(("g_0", 0, 7), settled(plain))

    def test_triples_are_ascending(self):
        plain = (("f_0", 0, ("plus", ("call", "z_2", (ONE, ONE)), ("plus", ("call", "h_9", (ONE,)),
            ("call", "h_10", (ONE,))))),
                 ("z_2", 2, A), ("h_9", 1, A), ("h_10", 1, A))
        self.assertEqual(settled(plain), (("h_10", 0, 1), ("h_9", 0, 1), ("z_2", 0, 1), ("z_2", 1, 1)))

    def test_settled_ones_may_be_written_as_numbers(self):
        rng = random.Random(45)
        many = 0
        for _ in range(3000):
            plain = random_shuffle(rng)
            lates = tuple(rng.choice((0, 1, 2, 5)) for _ in range(plain[0][1]))
            one = plain_run(plain, lates, 300)
            for name, index, value in settled(plain):
                other = tuple((title, count, replaced(body, index, value) if title == name else body) for title, count,
                              body in plain)
                many += one is not None and other != plain
                self.assertEqual(plain_run(other, lates, 300), one)
        self.assertGreater(many, 50)


def replaced(expression, index, value):
    """Return an expression, or a test, with a number in the place of a late one."""
    if expression == ("late", index):
        return number(value)
    if expression[0] in ("late", "number"):
        return expression
    if expression[0] == "call":
        return (*expression[:2], tuple(replaced(part, index, value) for part in expression[2]))
    return (expression[0], *[replaced(part, index, value) for part in expression[1:]])


class WrongArgumentsTest(unittest.TestCase):
    def test_arguments(self):
        for function in (needless, slimmed, settled):
            check_arguments(self, function, Argument(EXAMPLE, EXAMPLE + EXAMPLE, BadPlain))
            for plain in (POWER, list(EXAMPLE), EXAMPLE[:1], (("f_0", 1, B),)):
                self.assertRaises(BadPlain, function, plain)

    def test_arguments_are_not_changed(self):
        plain = copy.deepcopy(EXAMPLE)
        needless(plain), slimmed(plain), settled(plain)
        self.assertEqual(plain, EXAMPLE)


if __name__ == "__main__":
    unittest.main()
