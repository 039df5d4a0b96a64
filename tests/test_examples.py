"""The examples that the interface gives, word for word."""

import unittest

EXAMPLES = (
    ("programs", """
>>> from staged.programs import calls, functions, is_early, is_program, node_count
>>> power = (("pow", 1, ("if", ("below", 1), ("number", 1), ("times", ("late", 0), ("call", "pow", ("move", -1), (("late", 0),))))),)
>>> [is_program(power), functions(power), node_count(power), calls(power, 'pow'), is_early(('plus', ('early',), ('number', 2)))]
[True, ('pow',), 7, (('call', 'pow', ('move', -1), (('late', 0),)),), True]
"""),
    ("runs", """
>>> from staged.runs import run
>>> power = (("pow", 1, ("if", ("below", 1), ("number", 1), ("times", ("late", 0), ("call", "pow", ("move", -1), (("late", 0),))))),)
>>> [run(power, 'pow', 3, (2,), 100), run(power, 'pow', 3, (2,), 5)]
[(8, 7, 6), None]
"""),
    ("walks", """
>>> from staged.walks import common, ground, height, next_points, rise
>>> power = (("pow", 1, ("if", ("below", 1), ("number", 1), ("times", ("late", 0), ("call", "pow", ("move", -1), (("late", 0),))))),)
>>> [next_points(power, ('pow', 3)), next_points(power, ('pow', 0)), ground(power), common(power), rise(power), height(power, 9)]
[(('pow', 2),), (), 1, 1, 0, 9]
"""),
    ("halting", """
>>> from staged.halting import climb, ending_numbers, ends, points, shows_climb, shows_closed
>>> power = (("pow", 1, ("if", ("below", 1), ("number", 1), ("times", ("late", 0), ("call", "pow", ("move", -1), (("late", 0),))))),)
>>> up = (('go', 0, ('if', ('below', 5), ('number', 0), ('call', 'go', ('move', 1), ()))),)
>>> [ends(power, 'pow', 3), points(power, 'pow', 2), ending_numbers(up, 'go', 7), climb(up, 'go', 4), points(up, 'go', 5), shows_climb(up, 'go', 6, ((('go', 6), ('go', 7)), 0, 1)), shows_closed(power, 'pow', 1, (('pow', 0), ('pow', 1)))]
[True, (('pow', 0), ('pow', 1), ('pow', 2)), (0, 1, 2, 3, 4), None, None, True, True]
"""),
    ("plains", """
>>> from staged.plains import is_plain, plain_run
>>> twice = (('f_0', 1, ('plus', ('late', 0), ('late', 0))),)
>>> [is_plain(twice), plain_run(twice, (21,), 9), plain_run(twice, (21,), 0)]
[True, (42, 1), None]
"""),
    ("staging", """
>>> from staged.staging import body_of, pays_from, staged, staging_steps
>>> power = (("pow", 1, ("if", ("below", 1), ("number", 1), ("times", ("late", 0), ("call", "pow", ("move", -1), (("late", 0),))))),)
>>> [staged(power, 'pow', 1), body_of(power, ('pow', 0)), staging_steps(power, 'pow', 3), pays_from(power, 'pow', 3, (2,), 100)]
[(('pow_1', 1, ('times', ('late', 0), ('call', 'pow_0', (('late', 0),)))), ('pow_0', 1, ('number', 1))), ('number', 1), 7, 1]
"""),
    ("folding", """
>>> from staged.folding import alike, least, lots, plain_alike, plain_least, unlike_path
>>> two = (('f', 1, ('if', ('rest', 2, 0), ('call', 'f', ('move', -1), (('late', 0),)), ('late', 0))),)
>>> [lots(two, 'f', 2), alike(two, ('f', 1), ('f', 3)), unlike_path(two, ('f', 1), ('f', 2)), least(two, 'f', 1), plain_alike((('f_0', 0, ('number', 1)),), (('g_2', 0, ('number', 1)),)), plain_least((('f_0', 0, ('call', 'f_1', ())), ('f_1', 0, ('call', 'f_0', ()))))]
[((('f', 1),), (('f', 2),)), True, (), (('f_1', 1, ('late', 0)),), True, (('f_0', 0, ('call', 'f_0', ())),)]
"""),
    ("rounds", """
>>> from staged.rounds import lifted, swapped
>>> less = (('f', 1, ('if', ('below', 3), ('late', 0), ('call', 'f', ('move', -1), (('plus', ('late', 0), ('number', 2)),)))),)
>>> [swapped(less, 0), lifted((('g_1', 1, ('if', ('less', ('number', 4), ('late', 0)), ('number', 0), ('late', 0))),), 0)]
[(('f', 1, ('if', ('less', ('late', 0), ('number', 3)), ('early',), ('call', 'f', ('move', 2), (('minus', ('late', 0), ('number', 1)),)))),), (('pa', 0, ('if', ('below', 5), ('early',), ('number', 0))),)]
"""),
    ("codes", """
>>> from staged.codes import compiled, plain_of
>>> [compiled((('f_0', 1, ('if', ('less', ('late', 0), ('number', 2)), ('number', 1), ('call', 'f_0', (('late', 0),)))),)), plain_of((((0, 1),), (('arg', 0), ('back',))))]
[(((0, 1),), (('arg', 0), ('push', 2), ('less',), ('zero', 6), ('push', 1), ('back',), ('arg', 0), ('tail', 0))), (('f_0', 1, ('late', 0)),)]
"""),
    ("machines", """
>>> from staged.machines import deepest, heights, machine_run
>>> code = (((0, 1),), (('arg', 0), ('push', 2), ('times',), ('back',)))
>>> [machine_run(code, (21,), 9), machine_run(code, (21,), 3), heights(code), deepest(code)]
[(42, 4, 1, 2), None, (0, 1, 2, 1), 2]
"""),
    ("graphs", """
>>> from staged.graphs import flat_functions, longest_chain, loops
>>> plain = (('f_0', 1, ('call', 'g_0', (('late', 0),))), ('g_0', 1, ('plus', ('late', 0), ('call', 'h_0', ()))), ('h_0', 0, ('number', 1)))
>>> [flat_functions(plain), loops(plain), longest_chain(plain)]
[('h_0',), (), 3]
"""),
    ("needs", """
>>> from staged.needs import needless, settled, slimmed
>>> plain = (('f_0', 1, ('call', 'g_0', (('late', 0), ('number', 5)))), ('g_0', 2, ('late', 1)))
>>> [needless(plain), slimmed(plain), settled(plain)]
[(('f_0', 0), ('g_0', 0)), (('f_0', 1, ('call', 'g_0', (('number', 5),))), ('g_0', 1, ('late', 0))), (('g_0', 1, 5),)]
"""),
    ("texts", """
>>> from staged.texts import write_plain, write_program
>>> power = (("pow", 1, ("if", ("below", 1), ("number", 1), ("times", ("late", 0), ("call", "pow", ("move", -1), (("late", 0),))))),)
>>> [write_program(power), write_plain((('pow_1', 1, ('times', ('late', 0), ('call', 'pow_0', (('late', 0),)))), ('pow_0', 1, ('number', 1))))]
['pow(e | a) = (if e < 1 then 1 else (a * pow(e - 1 | a)))', 'pow_1(a) = (a * pow_0(a)); pow_0(a) = 1']
"""),
    ("reading", """
>>> from staged.reading import read_plain, read_program
>>> [read_program('one(e)=(if e mod 2=1 then 1 else two(7)); two(e) = e'), read_plain('f_0(a,b) = (a-b)')]
[(('one', 0, ('if', ('rest', 2, 1), ('number', 1), ('call', 'two', ('give', 7), ()))), ('two', 0, ('early',))), (('f_0', 2, ('minus', ('late', 0), ('late', 1))),)]
"""),
)


def answers(text):
    """Return the shown answer of the last line of an example, and the one that is given."""
    *lines, call, shown = text.strip().split("\n")
    names = {}
    for line in lines:
        exec(line.removeprefix(">>> "), names)
    return shown, repr(eval(call.removeprefix(">>> "), names))


class ExamplesTest(unittest.TestCase):
    def test_examples(self):
        for module, text in EXAMPLES:
            with self.subTest(module):
                shown, given = answers(text)
                self.assertEqual(given, shown)


if __name__ == "__main__":
    unittest.main()
