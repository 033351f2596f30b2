"""Tests of what the interface asks of every call, whatever it answers."""

import ast
import builtins
import contextlib
import inspect
import io
import pathlib
import sys
import unittest

from roomstays import hours

PACKAGE = pathlib.Path(hours.__file__).parent

# The parameters of each call, and what it is called with here.
PARAMETERS = {
    "letin": ["places", "stays"],
    "allowed": ["places", "stays", "some"],
    "peak": ["stays"],
    "lockers": ["stays"],
    "places": ["stays"],
}
CALLS = {
    "letin": [
        (1, [0, 3, 1, 2, 2, 3]),
        (2, [9, 12, 10, 11, 10, 14, 11, 13, 12, 15]),
        (0, [1, 2]),
        (20, []),
        (21, [1, 2]),
        (1, [1, 2, 3]),
        (1, [2, 1]),
        (1, [1, 2] * 12),
    ],
    "allowed": [
        (2, [9, 12, 10, 11, 10, 14, 11, 13, 12, 15], [4, 0, 3, 1]),
        (2, [9, 12, 10, 11, 10, 14, 11, 13, 12, 15], [2, 1, 0]),
        (0, [1, 2], []),
        (20, [], []),
        (21, [1, 2], [0]),
        (1, [1, 2, 3], [0]),
        (1, [2, 1], [0]),
        (1, [1, 2] * 12, [0]),
        (1, [1, 2, 3, 4], [1, 0, 2]),
        (1, [1, 2, 3, 4], [1, 0, 1]),
    ],
    "peak": [
        ([9, 12, 10, 11, 10, 14, 11, 13, 12, 15],),
        ([0, 24] * 10,),
        ([],),
        ([1, 2, 3],),
        ([2, 1],),
        ([1, 2] * 12,),
    ],
    "lockers": [
        ([9, 12, 10, 11, 10, 14, 11, 13, 12, 15],),
        ([12, 15, 11, 13, 10, 14, 10, 11, 9, 12],),
        ([0, 24] * 10,),
        ([],),
        ([1, 2, 3],),
        ([2, 1],),
        ([1, 2] * 12,),
    ],
    "places": [
        ([9, 12, 10, 11, 10, 14, 11, 13, 12, 15],),
        ([0, 24] * 10,),
        ([],),
        ([1, 2, 3],),
        ([2, 1],),
        ([1, 2] * 12,),
    ],
}

# Those that answer one number; the others answer a number, then so many others.
ONE_NUMBER = ["allowed", "peak"]


class Untouched(list):
    """A list that lets nobody change it, not for a while either."""

    def refuse(self, *args, **kwargs):
        raise AssertionError("a list that was handed in was changed")

    append = clear = extend = insert = pop = remove = reverse = sort = refuse
    __setitem__ = __delitem__ = __iadd__ = __imul__ = refuse


def every_call():
    for name, rows in CALLS.items():
        for values in rows:
            yield getattr(hours, name), values


def copied(values):
    return tuple(list(value) if isinstance(value, list) else value for value in values)


def guarded(values):
    return tuple(Untouched(value) if isinstance(value, list) else value for value in values)


class Interface(unittest.TestCase):
    def test_names_and_parameters(self):
        for name, parameters in PARAMETERS.items():
            self.assertEqual(list(inspect.signature(getattr(hours, name)).parameters), parameters)

    def test_called_by_name_of_parameter(self):
        self.assertEqual(hours.letin(places=1, stays=[1, 2]), [1, 0])
        self.assertEqual(hours.allowed(places=1, stays=[1, 2, 1, 2], some=[1]), [1])
        self.assertEqual(hours.peak(stays=[1, 2, 1, 2]), [2])
        self.assertEqual(hours.lockers(stays=[1, 2, 1, 2]), [2, 0, 1])
        self.assertEqual(hours.places(stays=[1, 2, 1, 2]), [3, 0, 1, 2])

    def test_answers_are_lists_of_whole_numbers(self):
        for call, values in every_call():
            answer = call(*copied(values))
            self.assertIs(type(answer), list)
            for number in answer:
                self.assertIs(type(number), int)

    def test_answers_are_as_long_as_told(self):
        for call, values in every_call():
            answer = call(*copied(values))
            others = 0 if answer[0] < 0 or call.__name__ in ONE_NUMBER else answer[0]
            self.assertEqual(len(answer), 1 + others)

    def test_what_is_handed_in_stays_as_it_was(self):
        for call, values in every_call():
            handed = copied(values)
            call(*handed)
            self.assertEqual(handed, values)

    def test_what_is_handed_in_is_not_changed_for_a_while_either(self):
        for call, values in every_call():
            self.assertEqual(call(*guarded(values)), call(*copied(values)))

    def test_a_second_call_answers_the_same(self):
        first = [call(*copied(values)) for call, values in every_call()]
        kept = [list(answer) for answer in first]
        for answer in first:
            answer.append(99)
            answer[0] = 77
        self.assertEqual([call(*copied(values)) for call, values in every_call()], kept)

    def test_answers_do_not_hang_on_earlier_calls(self):
        alone = [call(*copied(values)) for call, values in every_call()]
        backwards = [call(*copied(values)) for call, values in reversed(list(every_call()))]
        self.assertEqual(backwards[::-1], alone)

    def test_prints_nothing(self):
        out, err = io.StringIO(), io.StringIO()
        with contextlib.redirect_stdout(out), contextlib.redirect_stderr(err):
            for call, values in every_call():
                call(*copied(values))
        self.assertEqual(out.getvalue() + err.getvalue(), "")

    def test_reads_nothing(self):
        opened = []

        def listen(event, args):
            if listening and event in ("open", "import", "builtins.input"):
                opened.append(event)

        listening = []
        sys.addaudithook(listen)
        calls = [(call, copied(values)) for call, values in every_call()]
        listening.append(True)
        for call, values in calls:
            call(*values)
        listening.clear()
        self.assertEqual(opened, [])

    def test_imports_nothing(self):
        for file in sorted(PACKAGE.rglob("*.py")):
            for node in ast.walk(ast.parse(file.read_text())):
                self.assertNotIsInstance(node, (ast.Import, ast.ImportFrom), str(file))

    def test_calls_nothing_that_reads_or_prints(self):
        banned = {"print", "open", "input", "eval", "exec", "compile", "__import__"}
        self.assertLessEqual(banned, set(dir(builtins)))
        for file in sorted(PACKAGE.rglob("*.py")):
            names = {node.id for node in ast.walk(ast.parse(file.read_text())) if isinstance(node, ast.Name)}
            self.assertEqual(names & banned, set(), str(file))


if __name__ == "__main__":
    unittest.main()
