"""The interface: each name stands in the file under which the document lists it, each method in its class."""

import ast
import inspect
import unittest
from pathlib import Path

from rulerkeep.errors import BadLine, KeepError
from rulerkeep.ranks import rank, ranked, youngest
from rulerkeep.rules import Rule

PACKAGE = Path(__file__).resolve().parent.parent / 'rulerkeep'

ERRORS = (
    'KeepError', 'BadLives', 'BadRank', 'BadTicks', 'BadAge', 'NotKept', 'OtherTick', 'TooMany', 'TooWide', 'BadText',
    'BadLine',
)
NAMES = {
    'errors.py': ERRORS,
    'ranks.py': ('rank', 'youngest', 'ranked'),
    'rules.py': ('Rule',),
}
METHODS = {
    ('rules.py', 'Rule'): (
        '__init__', 'lives', '__len__', '__eq__', '__getitem__', '__bool__', '__call__', '__contains__', '__or__',
        '__and__', '__add__', '__le__', 'are_lives', 'of',
    ),
}


def body_of(file):
    return ast.parse((PACKAGE / file).read_text()).body


def defined(body):
    return [part.name for part in body if isinstance(part, (ast.FunctionDef, ast.ClassDef))]


class Interface(unittest.TestCase):
    def test_each_name_is_defined_in_its_file(self):
        for file, names in NAMES.items():
            for name in names:
                with self.subTest(file=file, name=name):
                    self.assertEqual(defined(body_of(file)).count(name), 1)

    def test_each_method_is_defined_in_its_class(self):
        for (file, name), methods in METHODS.items():
            [found] = [part for part in body_of(file) if isinstance(part, ast.ClassDef) and part.name == name]
            for method in methods:
                with self.subTest(name=name, method=method):
                    self.assertIn(method, defined(found.body))

    def test_each_error_takes_its_value_itself(self):
        for part in body_of('errors.py'):
            if isinstance(part, ast.ClassDef) and part.name != 'KeepError':
                self.assertIn('__init__', defined(part.body), part.name)

    def test_the_names_of_the_arguments(self):
        self.assertEqual(str(inspect.signature(rank)), '(point)')
        self.assertEqual(str(inspect.signature(youngest)), '(tick, rank)')
        self.assertEqual(str(inspect.signature(ranked)), '(low, high, rank)')
        self.assertEqual(str(inspect.signature(Rule)), '(*lives)')
        self.assertEqual(str(inspect.signature(Rule.are_lives)), '(value)')
        self.assertEqual(str(inspect.signature(Rule.of)), '(lives)')
        self.assertEqual(str(inspect.signature(Rule(1))), '(age)')
        self.assertEqual(str(inspect.signature(BadLine)), '(value)')

    def test_the_kinds_of_the_members_of_a_rule(self):
        self.assertIsInstance(vars(Rule)['lives'], property)
        self.assertIsInstance(vars(Rule)['are_lives'], staticmethod)
        self.assertIsInstance(vars(Rule)['of'], classmethod)
        self.assertIn('MOST_LIVES', vars(Rule))

    def test_keep_error_is_imported_from_errors(self):
        self.assertEqual(KeepError.__module__, 'rulerkeep.errors')


class Form(unittest.TestCase):
    """The limits of the language subset that are easily crossed by accident."""

    def files(self):
        return sorted(PACKAGE.rglob('*.py'))

    def test_sizes(self):
        for path in self.files():
            lines = path.read_text().split('\n')
            with self.subTest(path.name):
                self.assertLess(len(lines), 400)
                self.assertLessEqual(max([len(line) for line in lines]), 120)

    def test_functions_are_short(self):
        for path in self.files():
            for part in ast.walk(ast.parse(path.read_text())):
                if isinstance(part, ast.FunctionDef):
                    self.assertLessEqual(part.end_lineno - part.lineno + 1, 40, part.name)

    def test_characters(self):
        for path in self.files():
            strange = [sign for sign in path.read_bytes() if not (sign == 10 or 32 <= sign <= 126)]
            self.assertEqual(strange, [], path.name)

    def test_no_other_files(self):
        others = [path for path in PACKAGE.rglob('*') if path.is_file() and path.suffix not in ('.py', '.pyc')]
        self.assertEqual(others, [])


if __name__ == '__main__':
    unittest.main()
