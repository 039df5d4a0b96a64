import copy
import inspect
import random
import unittest

from staged import programs
from staged.errors import BadExpression, BadName, BadProgram
from staged.programs import calls, functions, is_early, is_program, node_count
from tests.checker import BARRED, Checker, checked
from tests.samples import FOUR, POWER, VALUES, chain, doubled, nested, of_nodes, random_program, replacements

CALLED = ("g", 0, ("number", 0))


def of_body(body, lates=1):
    """Return a program, or what is none, of a function f with this body, and others with 0 to 4 late numbers."""
    others = tuple((name, many, ("early",)) for many, name in enumerate(("zero", "one", "two", "three", "four")))
    return (("f", lates, body),) + others


def of_test(test):
    return of_body(("if", test, ("early",), ("late", 0)))


def of_move(move):
    return of_body(("call", "zero", move, ()))


def named(name):
    return ((name, 0, ("call", name, ("give", 0), ())),)


class IsProgramTest(unittest.TestCase):
    def all_are(self, values, expected=True):
        for at, value in enumerate(values):
            with self.subTest(at):
                self.assertIs(is_program(value), expected)

    def none_is(self, values):
        self.all_are(values, False)

    def test_interface(self):
        shapes = {"is_program": "(value)", "functions": "(program)", "node_count": "(program)",
                  "calls": "(program, name)", "is_early": "(expression)"}
        for name, shape in shapes.items():
            with self.subTest(name):
                self.assertEqual(str(inspect.signature(getattr(programs, name))), shape)
                self.assertEqual(getattr(programs, name).__module__, "staged.programs")

    def test_ordinary_programs(self):
        self.all_are((POWER, FOUR, POWER + FOUR, (CALLED,)))

    def test_no_values_of_other_kinds(self):
        self.none_is(VALUES)

    def test_lists_are_no_tuples(self):
        self.none_is((list(POWER), (list(POWER[0]),), of_body(["early"]), of_body(["number", 1]),
                      of_test(["below", 1]), of_test(["less", ("late", 0), ("early",)]), of_move(["give", 1]),
                      of_move(["move", 1]), of_body(("call", "zero", ("give", 1), [])),
                      of_body(["plus", ("early",), ("early",)]), of_body(["if", ("below", 1), ("early",), ("early",)]),
                      of_body(["call", "zero", ("give", 1), ()]), of_body(["late", 0])))

    def test_names(self):
        self.all_are(map(named, ("f", "z", "aa", "ee", "abcdefgh", "zzzzzzzz", "iff", "els", "less", "below", "early")))
        self.none_is(map(named, ("", "abcdefghi", "F", "fA", "f1", "1", "f_", "f ", " f", "f\n", "\u00e9", "\u00df",
                                 "f\u0131", "`", "{", 1, None, True, ("f",), ["f"], {"f": 1})))
        self.none_is(map(named, BARRED))

    def test_barred_letters_end_at_e(self):
        for letter in "abcdefghijklmnopqrstuvwxyz":
            with self.subTest(letter):
                self.assertIs(is_program(named(letter)), letter > "e")

    def test_numbers(self):
        self.all_are(of_body(("number", n)) for n in (0, 1, 1000000))
        wrong = (-1, 1000001, 10 ** 5000, True, False, None, "1", (), (1,), [1], {})
        self.none_is(of_body(("number", n)) for n in wrong)
        self.none_is(map(of_body, (("number",), ("number", 1, 1), ("early", 1), ("early", ()))))

    def test_late_indexes(self):
        for lates in range(5):
            for index in range(-2, 7):
                with self.subTest(lates=lates, index=index):
                    self.assertIs(is_program(of_body(("late", index), lates)), 0 <= index < lates)
        self.none_is(of_body(("late", index), 4) for index in (True, False, None, "0", (0,), [0], {}))
        self.none_is((of_body(("late",)), of_body(("late", 0, 0))))

    def test_numbers_of_late_ones(self):
        self.all_are(of_body(("early",), many) for many in range(5))
        self.none_is(of_body(("early",), many) for many in (-1, 5, True, False, None, "1", (), (1,), [1], {}))

    def test_operations_have_two_parts(self):
        late = ("late", 0)
        for word in ("plus", "minus", "times"):
            with self.subTest(word):
                self.assertTrue(is_program(of_body((word, late, ("early",)))))
                self.none_is(map(of_body, ((word,), (word, late), (word, late, late, late), (word, late, 1),
                                           (word, 1, late), (word, late, ("below", 1)), (word, ("rest", 2, 1), late))))

    def test_unknown_words(self):
        late = ("late", 0)
        self.none_is(map(of_body, (("divide", late, late), ("less", late, late), ("below", 1), ("give", 1),
                                   ("Plus", late, late),
                                   (None, late, late), (1, late, late), (True,), (("early",),),
                                   (["plus"], late, late))))

    def test_ifs(self):
        late = ("late", 0)
        self.none_is(map(of_body, (("if",), ("if", ("below", 1)), ("if", ("below", 1), late), ("if", late, late, late),
                                   ("if", ("below", 1), late, late, late), ("if", ("below", 1), ("below", 1), late),
                                   ("if", ("below", 1), late, ("below", 1)), ("if", True, late, late))))

    def test_below(self):
        self.all_are(of_test(("below", c)) for c in (0, 1, 1000))
        self.none_is(of_test(("below", c)) for c in (-1, 1001, True, False, None, "1", (), [1], {}, ("number", 1)))
        self.none_is(map(of_test, (("below",), ("below", 1, 1), (), "below", None, True, 1, {})))

    def test_rest(self):
        for divisor in range(-1, 9):
            for rest in range(-1, 9):
                with self.subTest(divisor=divisor, rest=rest):
                    self.assertIs(is_program(of_test(("rest", divisor, rest))),
                                  2 <= divisor <= 6 and 0 <= rest < divisor)
        for wrong in (True, False, None, "1", (1,), [1], {}):
            self.none_is((of_test(("rest", 2, wrong)), of_test(("rest", wrong, 0))))
        self.none_is(map(of_test, (("rest",), ("rest", 2), ("rest", 2, 1, 1))))

    def test_less_is_not_of_two_early_ones(self):
        early = (("early",), ("number", 3), ("plus", ("early",), ("number", 1)),
                 ("if", ("below", 1), ("early",), ("number", 1)),
                 ("if", ("rest", 2, 1), ("times", ("early",), ("early",)), ("number", 1)))
        late = (("late", 0), ("plus", ("early",), ("late", 0)), ("call", "zero", ("give", 1), ()),
                ("if", ("below", 1), ("late", 0), ("number", 1)),
                ("if", ("less", ("late", 0), ("number", 1)), ("early",), ("number", 1)))
        self.none_is(of_test(("less", one, other)) for one in early for other in early)
        self.all_are(of_test(("less", one, other)) for one in late for other in early + late)
        self.all_are(of_test(("less", one, other)) for one in early for other in late)
        self.none_is(map(of_test, (("less",), ("less", ("late", 0)), ("less", ("late", 0), ("late", 0), ("late", 0)),
                                   ("less", ("late", 0), 1), ("less", ("below", 1), ("late", 0)))))

    def test_less_of_two_early_ones_is_found_anywhere(self):
        bad = ("if", ("less", ("early",), ("number", 1)), ("late", 0), ("late", 0))
        self.none_is(map(of_body, (("plus", bad, ("late", 0)), ("times", ("late", 0), bad),
                                   ("call", "one", ("give", 1), (bad,)),
                                   ("if", ("less", bad, ("late", 0)), ("early",), ("early",)), chain(28, bad))))

    def test_moves(self):
        self.all_are(of_move(("give", n)) for n in (0, 1, 1000))
        self.all_are(of_move(("move", c)) for c in (-5, -1, 0, 1, 5))
        self.none_is(of_move(("give", n)) for n in (-1, 1001, True, False, None, "1", (), [1], {}))
        self.none_is(of_move(("move", c)) for c in (-6, 6, True, False, None, "1", (), [1], {}))
        self.none_is(map(of_move, ((), ("give",), ("move",), ("give", 1, 1), ("move", 1, 1), ("go", 1), ("early",), 1,
                                   "give", True, None, [], {}, nested(100000))))

    def test_calls_name_a_function(self):
        self.none_is(of_body(("call", name, ("give", 1), ())) for name in
                     ("other", "if", "", None, True, 1, (), ("zero",), ["zero"], {"zero": 1}, nested(100000)))
        self.assertTrue(is_program(of_body(("call", "f", ("give", 1), (("early",),)))))

    def test_calls_hand_on_as_many_as_there_are_late_ones(self):
        for many, name in enumerate(("zero", "one", "two", "three", "four")):
            for handed in range(7):
                with self.subTest(name, handed=handed):
                    call = ("call", name, ("give", 1), (("early",),) * handed)
                    self.assertIs(is_program(of_body(call)), many == handed)

    def test_what_calls_hand_on(self):
        self.none_is(of_body(("call", "one", ("give", 1), handed)) for handed in
                     ((1,), (None,), (("below", 1),), [("early",)], {0: ("early",)}, "e", 1, True, None, ("early",)))
        self.none_is(map(of_body, (("call",), ("call", "zero"), ("call", "zero", ("give", 1)),
                                   ("call", "zero", ("give", 1), (), ()))))

    def test_many_functions(self):
        many = [(letter * 2, 0, ("early",)) for letter in "abcdefghi"]
        self.none_is([()])
        for number in range(1, 10):
            with self.subTest(number):
                self.assertIs(is_program(tuple(many[:number])), number <= 8)

    def test_names_are_unlike(self):
        self.none_is(((CALLED, CALLED), (CALLED, ("f", 0, ("early",)), ("g", 1, ("late", 0)))))

    def test_functions_are_triples(self):
        self.none_is((POWER[0], (("g", 0),), (("g", 0, ("early",), ()),), (CALLED, None), (CALLED, ()), ("gab",),
                      (("early",),)))

    def test_depth(self):
        late = ("late", 0)
        self.all_are((of_body(chain(30)), of_body(chain(30, ("early",)))))
        self.none_is((of_body(chain(31)), of_body(chain(31, ("early",))), of_body(chain(32)), of_body(chain(1000))))
        for depth in (29, 30):
            deep = chain(depth)
            with self.subTest(depth):
                expected = depth == 29
                self.assertIs(is_program(of_body(("call", "one", ("give", 1), (deep,)))), expected)
                self.assertIs(is_program(of_body(("times", ("number", 1), deep))), expected)
                self.assertIs(is_program(of_body(("minus", deep, ("number", 1)))), expected)
                self.assertIs(is_program(of_body(("if", ("below", 1), deep, late))), expected)
                self.assertIs(is_program(of_body(("if", ("below", 1), late, deep))), expected)

    def test_tests_count_as_depth(self):
        late = ("late", 0)
        for depth in (28, 29):
            deep = chain(depth)
            with self.subTest(depth):
                self.assertIs(is_program(of_test(("less", deep, late))), depth == 28)
                self.assertIs(is_program(of_test(("less", late, deep))), depth == 28)

    def test_tests_are_as_deep_as_branches(self):
        inner = ("if", ("below", 1), ("early",), ("early",))
        self.all_are((of_body(chain(29, inner)),))
        self.none_is((of_body(chain(30, inner)),))

    def test_many_nodes(self):
        self.all_are(((("f", 1, of_nodes(299)),), (("f", 1, of_nodes(149)), ("g", 1, of_nodes(151))),
                      (("f", 1, of_nodes(299)), CALLED)))
        self.none_is(((("f", 1, of_nodes(301)),), (("f", 1, of_nodes(151)), ("g", 1, of_nodes(151))),
                      (("f", 1, of_nodes(299)), CALLED, ("h", 0, ("early",)))))

    def test_tests_are_nodes(self):
        late = ("late", 0)
        plain = ("if", ("below", 1), late, late)
        less = ("if", ("less", late, late), late, late)
        self.all_are(((("f", 1, ("plus", of_nodes(295), plain)),),))
        self.none_is(((("f", 1, ("plus", of_nodes(297), plain)),),))
        self.all_are(((("f", 1, ("plus", of_nodes(293), less)),),))
        self.none_is(((("f", 1, ("plus", of_nodes(295), less)),),))

    def test_shared_parts_count_each_time(self):
        self.none_is(((("f", 1, doubled(9)),), (("f", 1, doubled(30)),), (("f", 1, doubled(31)),)))
        self.all_are(((("f", 1, doubled(8)),),))

    def test_replaced_parts(self):
        others = tuple(value for value in VALUES if value != ("number", 1)) + (("number", 1), ("late", 0), ("late", 1))
        for program in (POWER, FOUR):
            found = {True: 0, False: 0}
            for value in replacements(program, others):
                expected = checked(value)
                found[expected] += 1
                self.assertIs(is_program(value), expected, f"replacement {found}")
            self.assertGreater(found[True], 20)
            self.assertGreater(found[False], 1000)

    def test_random_programs(self):
        rng = random.Random(1)
        found = [0, 0]
        for _ in range(600):
            program = random_program(rng, 8)
            self.assertIs(is_program(program), checked(program))
            found[checked(program)] += 1
        self.assertGreater(min(found), 10)


class ReadingTest(unittest.TestCase):
    def test_functions(self):
        self.assertEqual(functions(POWER), ("pow",))
        self.assertEqual(functions(FOUR), ("first", "second", "third", "fourth"))
        self.assertEqual(functions((("z", 0, ("early",)), ("f", 0, ("early",)))), ("z", "f"))

    def test_node_count(self):
        self.assertEqual(node_count((CALLED,)), 1)
        self.assertEqual(node_count(POWER), 7)
        self.assertEqual([node_count((function,)) for function in FOUR[1:]], [6, 4, 5])
        self.assertEqual(node_count(FOUR), 11 + 6 + 4 + 5)
        self.assertEqual(node_count((("f", 1, of_nodes(299)), CALLED)), 300)

    def test_node_count_of_random_programs(self):
        rng = random.Random(2)
        for _ in range(100):
            program = random_program(rng)
            if is_program(program):
                checker = Checker({name: lates for name, lates, _ in program})
                for _, lates, body in program:
                    checker.expression(body, lates)
                self.assertEqual(node_count(program), checker.many)

    def test_no_calls(self):
        self.assertEqual(calls((CALLED,), "g"), ())
        self.assertEqual(calls(FOUR, "second"), ())

    def test_calls_are_those_of_the_one_function(self):
        self.assertEqual(calls(FOUR, "first"), (("call", "second", ("give", 7), (("early",),)),
                                                ("call", "third", ("move", 5), ())))
        self.assertEqual(calls(FOUR, "fourth"), (FOUR[3][2],))

    def test_calls_in_the_order_of_the_text(self):
        def call(n, *handed):
            return ("call", ("zero", "one", "two")[len(handed)], ("give", n), handed)

        five, six = call(5, call(3), call(4)), call(6, ("plus", call(1), call(2)))
        body = ("if", ("less", five, ("plus", call(7), six)), ("minus", call(9), call(8)), call(10, call(10)))
        expected = (five, call(3), call(4), call(7), six, call(1), call(2), call(9), call(8), call(10, call(10)),
                    call(10))
        self.assertEqual(calls(of_body(body), "f"), expected)

    def test_like_calls_are_all_named(self):
        call = ("call", "zero", ("give", 1), ())
        self.assertEqual(calls(of_body(("plus", call, ("plus", call, call))), "f"), (call, call, call))

    def test_deepest_calls(self):
        call = ("call", "f", ("give", 0), (("late", 0),))
        for _ in range(28):
            call = ("call", "f", ("give", 0), (call,))
        found = calls((("f", 1, call),), "f")
        self.assertEqual(len(found), 29)
        self.assertEqual(found[:2], (call, call[3][0]))
        self.assertEqual(found[-1], ("call", "f", ("give", 0), (("late", 0),)))

    def test_wrong_programs(self):
        for at, value in enumerate(VALUES):
            with self.subTest(at):
                self.assertRaises(BadProgram, functions, value)
                self.assertRaises(BadProgram, node_count, value)
                self.assertRaises(BadProgram, calls, value, "pow")

    def test_wrong_names(self):
        for at, value in enumerate(VALUES):
            if value != "pow":
                with self.subTest(at):
                    self.assertRaises(BadName, calls, POWER, value)
        self.assertRaises(BadName, calls, FOUR, "pow")

    def test_the_leftmost_error_is_raised(self):
        for at, value in enumerate(VALUES):
            with self.subTest(at):
                self.assertRaises(BadProgram, calls, value, value)
                self.assertRaises(BadProgram, calls, value, "other")

    def test_arguments_are_not_changed(self):
        for make in (lambda: [list(POWER[0])], lambda: {"pow": [1]}, lambda: ["pow"],
                     lambda: (["pow", 1, ["late", 0]],)):
            value = make()
            for call in (functions, node_count, lambda x: calls(x, x), lambda x: calls(POWER, x), is_early):
                self.assertRaises(ValueError, call, value)
            self.assertFalse(is_program(value))
            self.assertEqual(value, make())
        program = copy.deepcopy(FOUR)
        functions(program), node_count(program), calls(program, "first")
        self.assertEqual(program, FOUR)


class IsEarlyTest(unittest.TestCase):
    def test_early_ones(self):
        for expression in (("early",), ("number", 0), ("number", 1000000), ("plus", ("early",), ("early",)),
                           ("times", ("minus", ("early",), ("number", 3)), ("number", 2)),
                           ("if", ("below", 4), ("early",), ("number", 2)),
                           ("if", ("rest", 6, 5), ("number", 1), ("early",)),
                           chain(30, ("early",))):
            self.assertIs(is_early(expression), True)

    def test_others(self):
        call = ("call", "any", ("move", 5), ())
        for expression in (("late", 0), ("late", 3), call, ("plus", ("early",), ("late", 1)),
                           ("minus", ("late", 1), ("early",)),
                           ("call", "f", ("give", 1), (("early",),) * 4), ("times", ("early",), call),
                           ("if", ("below", 4), ("early",), ("late", 0)), ("if", ("below", 4), call, ("early",)),
                           ("if", ("less", ("late", 0), ("number", 1)), ("early",), ("early",)),
                           ("if", ("less", ("number", 1), call), ("early",), ("early",)), chain(30), chain(30, call)):
            self.assertIs(is_early(expression), False)

    def test_any_names_will_do(self):
        for name in ("f", "pow", "abcdefgh", "zz"):
            for many in range(5):
                self.assertIs(is_early(("call", name, ("give", 0), (("early",),) * many)), False)

    def test_wrong_values(self):
        good = (("early",), ("number", 1))
        for at, value in enumerate(VALUES):
            if value in good:
                continue
            with self.subTest(at):
                self.assertRaises(BadExpression, is_early, value)

    def test_wrong_expressions(self):
        late, five = ("late", 0), (("early",),) * 5
        wrong = (("late", 4), ("late", -1), ("late", True), ("number", -1), ("number", 1000001), ("number", True),
                 ("below", 1), ("rest", 2, 1), ("less", late, late), ("if", late, late, late),
                 ("if", ("less", ("early",), ("number", 1)), late, late), ("if", ("below", 1001), late, late),
                 ("call", "f", ("give", 1), five), ("call", "if", ("give", 1), ()), ("call", "e", ("give", 1), ()),
                 ("call", "ninelette", ("give", 1), ()), ("call", None, ("give", 1), ()),
                 ("call", "f", ("give", 1001), ()),
                 ("call", "f", ("move", 6), ()), ("call", "f", ("move", -6), ()), ("call", "f", (), ()),
                 ("call", "f", ("give", 1), []), ("call", "f", ("give", 1), None), ("call", "f", ("give", 1), (1,)),
                 chain(31), chain(31, ("early",)), chain(100000), ("plus", late, None), POWER, POWER[0])
        for at, expression in enumerate(wrong):
            with self.subTest(at):
                self.assertRaises(BadExpression, is_early, expression)

    def test_more_nodes_than_a_program_may_have(self):
        self.assertIs(is_early(doubled(10)), False)
        self.assertIs(is_early(doubled(10, ("early",))), True)


if __name__ == "__main__":
    unittest.main()
