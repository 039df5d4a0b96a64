import copy
import inspect
import random
import unittest

from staged import graphs
from staged.codes import compiled
from staged.errors import BadPlain
from staged.graphs import flat_functions, longest_chain, loops
from staged.machines import machine_run
from staged.staging import staged
from tests.arguments import Argument, check_arguments
from tests.coder import code_of
from tests.samples import POWER, chain, random_plain

LATE, ONE = ("late", 0), ("number", 1)
LEAF = (("leaf_0", 0, ONE), ("uno_0", 1, LATE))
IF = ("if", ("less", ONE, ONE), ONE, ONE)


def call(name, *handed):
    return ("call", name, handed)


def leaf():
    return call("leaf_0")


def of_body(body):
    """Return a plain program with a start f_0 with this body, and functions that call nothing."""
    return (("f_0", 1, body),) + LEAF


def edges(**called):
    """Return a plain program of functions that call one another in the last place."""
    def body(names):
        if not names:
            return ONE
        if len(names) == 1:
            return call(f"{names[0]}_0")
        return ("if", ("less", ONE, ONE), body(names[:1]), body(names[1:]))

    return tuple((f"{name}_0", 0, body(names.split())) for name, names in called.items())


def names_of(text):
    return tuple(f"{name}_0" for name in text.split())


class FlatTest(unittest.TestCase):
    def test_interface(self):
        for name in ("flat_functions", "loops", "longest_chain"):
            with self.subTest(name):
                self.assertEqual(str(inspect.signature(getattr(graphs, name))), "(plain)")
                self.assertEqual(getattr(graphs, name).__module__, "staged.graphs")

    def test_no_calls(self):
        for body in (ONE, LATE, IF, chain(30), ("plus", IF, IF)):
            self.assertEqual(flat_functions(of_body(body)), ("f_0", "leaf_0", "uno_0"))

    def test_calls_in_the_last_place(self):
        for body in (leaf(), call("uno_0", LATE), call("f_0", LATE), call("uno_0",
            ("if", ("less", LATE, ONE), ONE, LATE)),
                     ("if", ("less", LATE, ONE), leaf(), ONE), ("if", ("less", LATE, ONE), ONE, leaf()),
                     ("if", ("less", LATE, ONE), leaf(), ("if", ("less", LATE, ONE), call("f_0", ONE),
                         call("uno_0", ONE)))):
            with self.subTest(body=body):
                self.assertEqual(flat_functions(of_body(body)), ("f_0", "leaf_0", "uno_0"))

    def test_calls_elsewhere(self):
        for body in (("plus", leaf(), ONE), ("plus", ONE, leaf()), ("minus", LATE, leaf()), ("times", leaf(), leaf()),
                     call("uno_0", leaf()), call("uno_0", ("plus", ONE, leaf())),
                     call("uno_0", ("if", ("less", LATE, ONE), leaf(), ONE)),
                     ("if", ("less", leaf(), ONE), ONE, ONE), ("if", ("less", ONE, leaf()), ONE, ONE),
                     ("if", ("less", ("if", ("less", LATE, ONE), leaf(), ONE), ONE), ONE, ONE),
                     ("plus", ("if", ("less", LATE, ONE), leaf(), ONE), ONE),
                     ("if", ("less", LATE, ONE), leaf(), ("if", ("less", LATE, ONE), ("plus", leaf(), ONE), ONE))):
            with self.subTest(body=body):
                self.assertEqual(flat_functions(of_body(body)), ("leaf_0", "uno_0"))

    def test_calls_that_are_come_to_by_calls_of_any_kind(self):
        uneven = ("plus", leaf(), ONE)
        plain = (("f_0", 0, call("g_0")), ("g_0", 0, call("uno_0", ONE)), ("h_0", 0, uneven),
                 ("k_0", 0, call("h_0"))) + LEAF
        self.assertEqual(flat_functions(plain), ("f_0", "g_0", "leaf_0", "uno_0"))
        plain = (("f_0", 0, call("g_0")), ("g_0", 0, call("k_0")), ("h_0", 0, uneven), ("k_0", 0, call("h_0"))) + LEAF
        self.assertEqual(flat_functions(plain), ("leaf_0", "uno_0"))

    def test_functions_that_the_start_cannot_come_to(self):
        plain = (("f_0", 0, leaf()), ("g_0", 0, ("plus", call("g_0"), ONE)), ("h_0", 0, call("h_0"))) + LEAF
        self.assertEqual(flat_functions(plain), ("f_0", "h_0", "leaf_0", "uno_0"))

    def test_loops_of_calls_in_the_last_place_are_flat(self):
        self.assertEqual(flat_functions(edges(f="g", g="h", h="f")), names_of("f g h"))
        plain = edges(f="g", g="h", h="f") + (("k_0", 0, ("plus", call("k_0"), ONE)),)
        self.assertEqual(flat_functions(plain), names_of("f g h"))

    def test_many_functions(self):
        line = tuple((f"f_{at}", 0, call(f"f_{at + 1}")) for at in range(299))
        self.assertEqual(len(flat_functions(line + (("f_299", 0, ONE),))), 300)
        self.assertEqual(flat_functions(line + (("f_299", 0, ("plus", call("f_299"), ONE)),)), ())
        self.assertEqual(flat_functions((("f_299", 0, ("plus", call("f_0"), ONE)),) + line[:-1] + (("f_298", 0, ONE),)),
                         tuple(f"f_{at}" for at in range(299)))

    def test_a_run_of_code_from_a_flat_function_makes_do_with_one_frame(self):
        rng = random.Random(40)
        found = [0, 0]
        for _ in range(800):
            plain = random_plain(rng, rng.randint(2, 5))
            lates = tuple(rng.choice((0, 1, 2, 5)) for _ in range(plain[0][1]))
            answer = machine_run(compiled(plain), lates, 2000)
            if answer is not None:
                flat = plain[0][0] in flat_functions(plain)
                found[flat and len(plain[0][2]) > 2] += 1
                if flat:
                    self.assertEqual(answer[2], 1)
        self.assertGreater(min(found), 30)


class LoopsTest(unittest.TestCase):
    def test_no_loops(self):
        self.assertEqual(loops(edges(f="g h", g="h", h="")), ())
        self.assertEqual(loops(staged(POWER, "pow", 5)), ())

    def test_loops_of_one_function_and_of_several(self):
        self.assertEqual(loops(edges(f="f")), names_of("f"))
        self.assertEqual(loops(edges(f="g", g="h", h="g")), names_of("g h"))
        self.assertEqual(loops(edges(f="g", g="h", h="f", k="f")), names_of("f g h"))
        self.assertEqual(loops(edges(h="g k", g="h", k="m", m="k", n="")), names_of("h g k m"))

    def test_one_that_only_comes_to_a_loop_is_none(self):
        self.assertEqual(loops(edges(f="g", g="h", h="h", k="")), names_of("h"))

    def test_functions_that_the_start_cannot_come_to(self):
        self.assertEqual(loops(edges(f="", g="h", h="g")), names_of("g h"))

    def test_calls_of_any_kind(self):
        for body in (("plus", call("f_0", ONE), ONE), call("uno_0", call("f_0", ONE)),
                     call("uno_0", call("uno_0", ("minus", ONE, call("f_0", ONE)))),
                     ("if", ("less", call("f_0", ONE), ONE), ONE, ONE), ("if", ("less", ONE, ONE), ONE,
                         call("f_0", LATE))):
            self.assertEqual(loops(of_body(body)), ("f_0",))

    def test_many_functions(self):
        ring = tuple((f"f_{at}", 0, call(f"f_{(at + 1) % 300}")) for at in range(300))
        self.assertEqual(loops(ring), tuple(f"f_{at}" for at in range(300)))
        self.assertEqual(loops(ring[:299] + (("f_299", 0, ONE),)), ())


class LongestChainTest(unittest.TestCase):
    def test_ordinary_ones(self):
        self.assertEqual(longest_chain(edges(f="")), 1)
        self.assertEqual(longest_chain(edges(f="g", g="")), 2)
        self.assertEqual(longest_chain(edges(f="g h", g="h", h="")), 3)
        self.assertEqual(longest_chain(edges(f="h g", g="h", h="")), 3)
        self.assertEqual(longest_chain(staged(POWER, "pow", 5)), 6)

    def test_only_what_the_start_comes_to_counts(self):
        self.assertEqual(longest_chain(edges(f="k", g="h", h="k", k="")), 2)
        self.assertEqual(longest_chain(edges(f="", g="g")), 1)
        self.assertEqual(longest_chain(edges(f="k", g="f g", k="")), 2)

    def test_none_where_a_loop_can_be_come_to(self):
        self.assertIsNone(longest_chain(edges(f="f")))
        self.assertIsNone(longest_chain(edges(f="g", g="f")))
        self.assertIsNone(longest_chain(edges(f="g h", g="", h="k", k="h")))
        self.assertIsNone(longest_chain(edges(f="g", g="h", h="k", k="k")))

    def test_calls_of_any_kind(self):
        self.assertEqual(longest_chain(of_body(("plus", ONE, call("uno_0", leaf())))), 2)
        self.assertEqual(longest_chain(of_body(("if", ("less", leaf(), ONE), ONE, ONE))), 2)
        self.assertIsNone(longest_chain(of_body(call("uno_0", ("plus", ONE, call("f_0", ONE))))))

    def test_many_functions(self):
        line = tuple((f"f_{at}", 0, call(f"f_{at + 1}")) for at in range(299)) + (("f_299", 0, ONE),)
        self.assertEqual(longest_chain(line), 300)
        self.assertIsNone(longest_chain(line[:299] + (("f_299", 0, call("f_299")),)))
        self.assertEqual(longest_chain(line[::-1]), 1)
        # Each of 300 functions calls all those behind it, one in its last place and the others in a sum.
        every = tuple((f"f_{at}", 0, total([call(f"f_{other}") for other in range(at + 1, 300)])) for at in range(300))
        self.assertEqual(longest_chain(every), 300)
        self.assertEqual(loops(every), ())
        self.assertEqual(flat_functions(every), ("f_298", "f_299"))

    def test_random_ones(self):
        rng = random.Random(41)
        found = {}
        for _ in range(1500):
            plain = random_plain(rng, rng.randint(1, 4)) if rng.random() < 0.5 else random_edges(rng)
            with self.subTest(plain=plain):
                flat, looping, longest = second_answers(plain)
                self.assertEqual(flat_functions(plain), flat)
                self.assertEqual(loops(plain), looping)
                self.assertEqual(longest_chain(plain), longest)
            found[(len(flat), len(looping), longest)] = True
        self.assertGreater(len(found), 30)


def total(parts):
    """Return the sum of plain expressions."""
    if len(parts) < 2:
        return parts[0] if parts else ONE
    return ("plus", total(parts[:len(parts) // 2]), total(parts[len(parts) // 2:]))


def random_edges(rng):
    """Return a random plain program of a few functions that call some of the others."""
    names = "f g h k m n".split()[:rng.randint(1, 6)]
    called = {}
    for at, name in enumerate(names):
        others = names if rng.random() < 0.15 else names[at + 1:]
        called[name] = " ".join(rng.sample(others, min(len(others), rng.randint(0, 2))))
    return edges(**called)


def second_answers(plain):
    """Return the flat functions, the loops and the longest chain, off the code of a plain program."""
    entries, instructions = code_of(plain)
    ends = [address for address, _ in entries[1:]] + [len(instructions)]
    own = [instructions[start:end] for (start, _), end in zip(entries, ends)]
    to = [{one[1] for one in some if one[0] in ("call", "tail")} for some in own]
    closure = [[other in called for other in range(len(plain))] for called in to]
    for middle in range(len(plain)):
        for one in range(len(plain)):
            for other in range(len(plain)):
                closure[one][other] |= closure[one][middle] and closure[middle][other]
    uneven = {at for at, some in enumerate(own) if any(one[0] == "call" for one in some)}
    names = [name for name, _, _ in plain]
    flat = tuple(name for at,
                 name in enumerate(names) if at not in uneven and not any(closure[at][other] for other in uneven))
    looping = tuple(name for at, name in enumerate(names) if closure[at][at])

    def longest(at):
        return 1 + max(map(longest, to[at]), default=0)

    endless = any(closure[at][at] and (at == 0 or closure[0][at]) for at in range(len(plain)))
    return flat, looping, None if endless else longest(0)


class WrongArgumentsTest(unittest.TestCase):
    def test_arguments(self):
        for function in (flat_functions, loops, longest_chain):
            check_arguments(self, function, Argument(of_body(LATE), of_body(("late", 1)), BadPlain))
            for plain in (POWER, list(LEAF), LEAF + LEAF, (("f_0", 1, call("g_0")),)):
                self.assertRaises(BadPlain, function, plain)

    def test_arguments_are_not_changed(self):
        plain = copy.deepcopy(of_body(leaf()))
        flat_functions(plain), loops(plain), longest_chain(plain)
        self.assertEqual(plain, of_body(leaf()))


if __name__ == "__main__":
    unittest.main()
