"""The examples of the interface: rows that begin with >>>, each answer in the row below, in tests/examples."""

import doctest
import pathlib
import unittest

from foxborders import errors
from tests.values import exact

# All files of the interface but that of the errors, which has no examples of its own.
NAMES = ("binding bordertrees changes chase counting desk house kept land plans rounds scripts sheets surveys tables texts "
         "verdicts").split()
FOLDER = pathlib.Path(__file__).parent / "examples"


def examples(path):
    """The pairs of a row and of the answer below it, None where it has none."""
    rows = path.read_text(encoding="utf-8").splitlines()
    for place, row in enumerate(rows):
        if row.startswith(">>> "):
            below = rows[place + 1] if place + 1 < len(rows) else ">>> "
            yield row[4:], None if below.startswith(">>> ") else below


class Examples(unittest.TestCase):

    def check(self, path):
        names = {}
        many = 0
        for row, answer in examples(path):
            many += 1
            if answer is None:
                exec(row, names)
            elif answer.startswith("raises "):
                expected = eval(answer[len("raises "):], vars(errors))
                with self.assertRaises(errors.FoxError, msg=row) as caught:
                    eval(row, names)
                self.assertIs(type(caught.exception), type(expected))
                self.assertEqual(exact(vars(caught.exception)), exact(vars(expected)), row)
            else:
                self.assertEqual(exact(eval(row, names)), exact(eval(answer)), row)
        return many

    def test_all_files(self):
        paths = sorted(FOLDER.glob("*.txt"))
        self.assertEqual([path.stem for path in paths], NAMES)
        for path in paths:
            with self.subTest(path.stem):
                self.assertGreater(self.check(path), 2)

    def test_readme(self):
        told = doctest.testfile(str(FOLDER.parent.parent / "README.md"), module_relative=False)
        self.assertEqual(told.failed, 0)
        self.assertGreater(told.attempted, 5)
