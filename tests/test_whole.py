"""What the document promises over the whole program: the interface, its errors, and how its parts fit together."""

import copy
import importlib
import inspect
import random
import unittest

from staged.codes import compiled, plain_of
from staged.errors import StageError, TooMany
from staged.folding import least, plain_alike, plain_least
from staged.graphs import flat_functions, longest_chain, loops
from staged.halting import climb, ends, points, shows_climb, shows_closed
from staged.machines import deepest, heights, machine_run
from staged.needs import needless, slimmed
from staged.plains import is_plain, plain_run
from staged.programs import is_program
from staged.reading import read_plain, read_program
from staged.rounds import lifted, swapped
from staged.runs import run
from staged.staging import staged
from staged.texts import write_plain, write_program
from tests.samples import FOUR, POWER, VALUES, random_plain, random_program, random_walker

PLAIN = staged(POWER, "pow", 2)
CODE = compiled(PLAIN)
POINT = ("pow", 3)
# A good value for each argument of the interface, by its name.
GOOD = {"program": POWER, "name": "pow", "early": 3, "lates": (2,), "fuel": 100, "point": POINT, "value": None,
        "expression": ("early",), "most": 5, "one": POINT, "other": POINT, "plain": PLAIN, "index": 0, "code": CODE,
        "text": write_program(POWER)}
INTERFACE = {
    "programs": ("is_program(value)", "is_early(expression)", "functions(program)", "node_count(program)",
                 "calls(program, name)"),
    "runs": ("run(program, name, early, lates, fuel)",),
    "walks": ("next_points(program, point)", "ground(program)", "common(program)", "rise(program)",
              "height(program, early)"),
    "halting": ("ends(program, name, early)", "shows_climb(program, name, early, value)",
                "shows_closed(program, name, early, value)",
                "points(program, name, early)", "climb(program, name, early)", "ending_numbers(program, name, most)"),
    "plains": ("is_plain(value)", "plain_run(plain, lates, fuel)"),
    "staging": ("staged(program, name, early)", "body_of(program, point)", "staging_steps(program, name, early)",
                "pays_from(program, name, early, lates, fuel)"),
    "folding": ("alike(program, one, other)", "shows_unlike_path(program, one, other, value)",
                "plain_alike(one, other)",
                "unlike_path(program, one, other)", "lots(program, name, early)", "least(program, name, early)",
                "plain_least(plain)"),
    "rounds": ("swapped(program, index)", "lifted(plain, index)"),
    "codes": ("compiled(plain)", "plain_of(code)"),
    "machines": ("machine_run(code, lates, fuel)", "heights(code)", "deepest(code)"),
    "graphs": ("flat_functions(plain)", "loops(plain)", "longest_chain(plain)"),
    "needs": ("needless(plain)", "slimmed(plain)", "settled(plain)"),
    "texts": ("write_program(program)", "write_plain(plain)"),
    "reading": ("read_program(text)", "read_plain(text)"),
}
FUNCTIONS = [(module, *shape.removesuffix(")").split("(")) for module, shapes in INTERFACE.items() for shape in shapes]


# Where the name of an argument does not tell what is good for it.
OTHERWISE = {"plain_alike": [PLAIN, PLAIN], "read_plain": [write_plain(PLAIN)]}


def interface_functions():
    """Yield the functions of the interface, with the names of their arguments and good ones."""
    for module, name, row in FUNCTIONS:
        names = row.split(", ")
        function = getattr(importlib.import_module(f"staged.{module}"), name)
        yield function, names, OTHERWISE.get(name, [GOOD[argument] for argument in names])


class InterfaceTest(unittest.TestCase):
    def test_each_function_is_defined_in_its_file(self):
        for module, name, row in FUNCTIONS:
            function = getattr(importlib.import_module(f"staged.{module}"), name)
            self.assertEqual((function.__module__, str(inspect.signature(function))), (f"staged.{module}", f"({row})"))
            self.assertTrue(inspect.isfunction(function))

    def test_equal_arguments_have_equal_answers_and_stay_as_they_are(self):
        for function, row, good in interface_functions():
            with self.subTest(function.__name__):
                kept = copy.deepcopy(good)
                answer = function(*good)
                self.assertEqual((good, function(*kept)), (kept, answer))

    def test_any_value_in_the_place_of_each_argument(self):
        for function, row, good in interface_functions():
            for at, argument in enumerate(row):
                for value in VALUES:
                    with self.subTest(function.__name__, at=at):
                        try:
                            answer = function(*good[:at], value, *good[at + 1:])
                        except StageError as error:
                            self.assertNotEqual(argument, "value", error)
                        else:
                            self.assertTrue(argument != "value" or answer is True or answer is False)

    def test_wrong_values_in_all_places_at_once(self):
        for function, row, good in interface_functions():
            for value in ([], {}, None, True, "", -1, ((),)):
                if "value" not in row:
                    with self.subTest(function.__name__, value=value):
                        self.assertRaises(StageError, function, *[value] * len(good))

    def test_tuples_alone_are_taken_and_no_lists(self):
        def listed(value):
            return [listed(part) for part in value] if type(value) is tuple else value

        for function, row, good in interface_functions():
            for at, value in enumerate(good):
                if type(value) is tuple and value:
                    for other in (list(value), listed(value), value[:-1] + ([value[-1]],)):
                        with self.subTest(function.__name__, at=at, other=other):
                            self.assertRaises(StageError, function, *good[:at], other, *good[at + 1:])


class TogetherTest(unittest.TestCase):
    def test_from_a_program_to_its_code(self):
        rng = random.Random(54)
        found = [0, 0]
        for _ in range(900):
            program = random_program(rng, rng.randint(4, 6))
            if not is_program(program):
                continue
            name, many, _ = rng.choice(program)
            early, lates = rng.choice((0, 1, 2, 5, 9)), tuple(rng.choice((0, 1, 2, 5, 1000000)) for _ in range(many))
            try:
                plain = staged(program, name, early)
            except TooMany:
                continue
            self.assertIs(ends(program, name, early), plain is not None)
            if plain is not None:
                answer = run(program, name, early, lates, 300)
                found[answer is not None] += 1
                with self.subTest(program=program, name=name, early=early, lates=lates):
                    self.check_plain(plain, lates, None if answer is None else (answer[0], answer[2]))
                    self.assertEqual(plain_run(least(program, name, early), lates, 300), plain_run(plain, lates, 300))
        self.assertGreater(min(found), 30)

    def test_plain_programs(self):
        rng = random.Random(55)
        for _ in range(600):
            plain = random_plain(rng, rng.randint(2, 6))
            lates = tuple(rng.choice((0, 1, 2, 5, 1000000)) for _ in range(plain[0][1]))
            with self.subTest(plain=plain, lates=lates):
                self.check_plain(plain, lates, plain_run(plain, lates, 300))

    def check_plain(self, plain, lates, answer):
        """Hold all that may be made of a plain program to its value and steps, None if it makes more than 300."""
        self.assertEqual(plain_run(plain, lates, 300), answer)
        folded, slim, code = plain_least(plain), slimmed(plain), compiled(plain)
        self.assertTrue(is_plain(folded) and is_plain(slim))
        self.assertIs(plain_alike(plain, folded), True)
        self.assertEqual(plain_run(folded, lates, 300), answer)
        self.assertEqual(read_plain(write_plain(plain)), plain)
        self.assertEqual(compiled(plain_of(code)), code)
        self.assertEqual(len(heights(code)), len(code[1]))
        self.assertGreaterEqual(deepest(code), 0)
        if answer is not None:
            played = machine_run(code, lates, 100000)
            self.assertEqual(played[0], answer[0])
            self.assertTrue(played[2] == 1 or plain[0][0] not in flat_functions(plain))
            slim_answer = plain_run(slim, lates, 300)
            self.assertEqual(slim_answer[0], answer[0])
            self.assertLessEqual(slim_answer[1], answer[1])
        elif longest_chain(plain) is None:
            self.assertNotEqual(loops(plain), ())

    def test_two_rounds(self):
        # f multiplies by a late number e times: the early number and the number of times change places.
        program = (("f", 2, ("if", ("less", ("late", 1), ("number", 1)), ("late", 0),
                             ("call", "f", ("move", 0), (("times", ("late", 0), ("early",)),
                                 ("minus", ("late", 1), ("number", 1)))))),)
        other = swapped(program, 1)
        for base in (0, 1, 2, 7):
            for times in (0, 1, 2, 10, 100):
                value = run(program, "f", base, (1, times), 1000)[0]
                self.assertEqual(value, min(base ** times, 10 ** 30))
                self.assertEqual(run(other, "f", times, (1, base), 1000)[0], value)
                self.assertEqual(plain_run(staged(other, "f", times), (1, base), 1000)[0], value)
        # What is staged for the one may be lifted for the other, and staged again.
        plain = staged(program, "f", 3)
        again = lifted(plain, 1)
        self.assertEqual([plain_run(staged(again, "pa", times), (1,), 99)[0] for times in (0, 1, 4)], [1, 3, 81])

    def test_texts_of_programs(self):
        rng = random.Random(56)
        for _ in range(300):
            program = rng.choice((random_program, random_walker))(rng)
            if is_program(program):
                self.assertEqual(read_program(write_program(program)), program)

    def test_papers(self):
        rng = random.Random(57)
        found = [0, 0]
        for _ in range(300):
            program = random_walker(rng)
            if is_program(program):
                name, early = rng.choice(program)[0], rng.randrange(20)
                met = points(program, name, early)
                found[met is None] += 1
                self.assertIs(shows_climb(program, name, early, climb(program, name, early)), True)
                self.assertIs(met is None or shows_closed(program, name, early, met), True)
        self.assertGreater(min(found), 20)

    def test_greatest_plain_programs(self):
        line = tuple((f"f_{at}", 4, ("call", f"f_{at + 1}", tuple(("late", late) for late in (3, 1, 2,
            0)))) for at in range(299))
        plain = line + (("f_299", 4, ("plus", ("late", 0), ("late", 3))),)
        self.assertEqual(plain_run(plain, (1, 2, 3, 4), 1000), (5, 300))
        self.assertEqual(plain_run(slimmed(plain), (1, 2, 3, 4), 1000), (5, 300))
        self.assertEqual(needless(plain), tuple(sorted((f"f_{at}", late) for at in range(300) for late in (1, 2))))
        self.assertEqual(machine_run(compiled(plain), (1, 2, 3, 4), 100000), (5, 299 * 5 + 4, 1, 4))
        self.assertEqual(plain_of(compiled(plain)), plain)
        self.assertEqual(read_plain(write_plain(plain)), plain)
        self.assertEqual((len(flat_functions(plain)), loops(plain), longest_chain(plain)), (300, (), 300))
        self.assertEqual(plain_least(plain), plain)

    def test_arguments_are_not_changed(self):
        program = copy.deepcopy(FOUR)
        write_program(program), staged(program, "first", 3), least(program, "first", 3)
        self.assertEqual(program, FOUR)


if __name__ == "__main__":
    unittest.main()
