"""The examples that the interface gives, word for word."""

import unittest

EXAMPLES = (
    ("programs", """
>>> from staged.programs import calls, functions, is_early, is_program, node_count
>>> power = (("pow", 1, ("if", ("below", 1), ("number", 1), ("times", ("late", 0), ("call", "pow", ("move", -1), (("late", 0),))))),)
>>> [is_program(power), functions(power), node_count(power), calls(power, 'pow'), is_early(('plus', ('early',), ('number', 2)))]
[True, ('pow',), 7, (('call', 'pow', ('move', -1), (('late', 0),)),), True]
"""),
    ("runs", """
>>> from staged.runs import run
>>> power = (("pow", 1, ("if", ("below", 1), ("number", 1), ("times", ("late", 0), ("call", "pow", ("move", -1), (("late", 0),))))),)
>>> [run(power, 'pow', 3, (2,), 100), run(power, 'pow', 3, (2,), 5)]
[(8, 7, 6), None]
"""),
)


def answers(text):
    """Return the shown answer of the last line of an example, and the one that is given."""
    *lines, call, shown = text.strip().split("\n")
    names = {}
    for line in lines:
        exec(line.removeprefix(">>> "), names)
    return shown, repr(eval(call.removeprefix(">>> "), names))


class ExamplesTest(unittest.TestCase):
    def test_examples(self):
        for module, text in EXAMPLES:
            with self.subTest(module):
                shown, given = answers(text)
                self.assertEqual(given, shown)


if __name__ == "__main__":
    unittest.main()
