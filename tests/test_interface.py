"""The interface: each name stands in the file under which the document lists it, each method in its class."""

import ast
import inspect
import unittest
from pathlib import Path

from rulerkeep.averages import average, most
from rulerkeep.changes import after_changes, changed, settled
from rulerkeep.errors import BadLine, KeepError
from rulerkeep.points import distance, kept, kept_between, kept_count, restore_point
from rulerkeep.ranks import rank, ranked, youngest
from rulerkeep.rules import Rule
from rulerkeep.session import Session
from rulerkeep.store import Store, Trial, tried
from rulerkeep.texts import read_rule, read_wish, show_rule, show_wish
from rulerkeep.wishes import cheapest, first_broken, is_wish, least_lives, meets, shows_broken
from rulerkeep.worst import promised, shows_worst, worst, worst_tick

PACKAGE = Path(__file__).resolve().parent.parent / 'rulerkeep'

ERRORS = (
    'KeepError', 'BadLives', 'BadRank', 'BadTicks', 'BadAge', 'NotKept', 'OtherTick', 'TooMany', 'TooWide', 'BadText',
    'BadLine',
)
NAMES = {
    'errors.py': ERRORS,
    'ranks.py': ('rank', 'youngest', 'ranked'),
    'rules.py': ('Rule',),
    'points.py': ('kept', 'kept_count', 'kept_between', 'restore_point', 'distance'),
    'worst.py': ('worst', 'worst_tick', 'shows_worst', 'promised'),
    'averages.py': ('average', 'most'),
    'wishes.py': ('is_wish', 'meets', 'first_broken', 'shows_broken', 'least_lives', 'cheapest'),
    'changes.py': ('changed', 'after_changes', 'settled'),
    'store.py': ('Store', 'Trial', 'tried'),
    'texts.py': ('show_rule', 'show_wish', 'read_rule', 'read_wish'),
    'session.py': ('Session',),
}
SIGNATURES = (
    (rank, '(point)'), (youngest, '(tick, rank)'), (ranked, '(low, high, rank)'),
    (Rule, '(*lives)'), (Rule.are_lives, '(value)'), (Rule.of, '(lives)'), (Rule(1), '(age)'),
    (BadLine, '(value)'),
    (kept, '(rule, tick)'), (kept_count, '(rule, tick)'), (kept_between, '(rule, tick, low, high)'),
    (restore_point, '(rule, tick, age)'), (distance, '(rule, tick, age)'),
    (worst, '(rule, age)'), (worst_tick, '(rule, age)'), (shows_worst, '(rule, age, value)'), (promised, '(rule)'),
    (average, '(rule)'), (most, '(rule)'),
    (is_wish, '(value)'), (meets, '(rule, wish)'), (first_broken, '(rule, wish)'),
    (shows_broken, '(rule, wish, value)'), (least_lives, '(wish)'), (cheapest, '(wish)'),
    (changed, '(old, new, since)'), (after_changes, '(first, *changes)'), (settled, '(old, new)'),
    (Store, '(rule, *, tick=0)'), (Store(Rule(1)).size, '()'), (Store(Rule(1)).advance, '(ticks)'),
    (Store(Rule(1)).change, '(rule)'), (Store(Rule(1)).lose, '(point)'), (Store(Rule(1)).restore, '(age)'),
    (Store(Rule(1)).distance, '(age)'), (Store(Rule(1)).points, '()'), (Store(Rule(1)).joined, '(other)'),
    (Store(Rule(1)).clone, '()'), (Trial, '(store)'), (tried, '(store, steps)'),
    (show_rule, '(rule)'), (show_wish, '(wish)'), (read_rule, '(text)'), (read_wish, '(text)'),
    (Session, '(text)'), (Session('1').say, '(line)'),
)
METHODS = {
    ('rules.py', 'Rule'): (
        '__init__', 'lives', '__len__', '__eq__', '__getitem__', '__bool__', '__call__', '__contains__', '__or__',
        '__and__', '__add__', '__le__', 'are_lives', 'of',
    ),
    ('store.py', 'Store'): (
        '__init__', 'tick', 'rule', 'size', 'advance', 'change', 'lose', 'restore', 'distance', 'points',
        '__contains__', 'joined', 'clone',
    ),
    ('store.py', 'Trial'): ('__init__', '__enter__', '__exit__'),
    ('session.py', 'Session'): ('__init__', 'say'),
}


def body_of(file):
    return ast.parse((PACKAGE / file).read_text()).body


def defined(body):
    return [part.name for part in body if isinstance(part, (ast.FunctionDef, ast.ClassDef))]


class Interface(unittest.TestCase):
    def test_each_name_is_defined_in_its_file(self):
        for file, names in NAMES.items():
            for name in names:
                with self.subTest(file=file, name=name):
                    self.assertEqual(defined(body_of(file)).count(name), 1)

    def test_each_method_is_defined_in_its_class(self):
        for (file, name), methods in METHODS.items():
            [found] = [part for part in body_of(file) if isinstance(part, ast.ClassDef) and part.name == name]
            for method in methods:
                with self.subTest(name=name, method=method):
                    self.assertIn(method, defined(found.body))

    def test_each_error_takes_its_value_itself(self):
        for part in body_of('errors.py'):
            if isinstance(part, ast.ClassDef) and part.name != 'KeepError':
                self.assertIn('__init__', defined(part.body), part.name)

    def test_the_names_of_the_arguments(self):
        for called, arguments in SIGNATURES:
            self.assertEqual(str(inspect.signature(called)), arguments, called)

    def test_the_kinds_of_the_members_of_a_rule(self):
        self.assertIsInstance(vars(Rule)['lives'], property)
        self.assertIsInstance(vars(Rule)['are_lives'], staticmethod)
        self.assertIsInstance(vars(Rule)['of'], classmethod)
        self.assertIn('MOST_LIVES', vars(Rule))

    def test_the_kinds_of_the_members_of_a_store(self):
        self.assertIsInstance(vars(Store)['tick'], property)
        self.assertIsInstance(vars(Store)['rule'], property)

    def test_keep_error_is_imported_from_errors(self):
        self.assertEqual(KeepError.__module__, 'rulerkeep.errors')


class Form(unittest.TestCase):
    """The limits of the language subset that are easily crossed by accident."""

    def files(self):
        return sorted(PACKAGE.rglob('*.py'))

    def test_sizes(self):
        for path in self.files():
            lines = path.read_text().split('\n')
            with self.subTest(path.name):
                self.assertLess(len(lines), 400)
                self.assertLessEqual(max([len(line) for line in lines]), 120)

    def test_functions_are_short(self):
        for path in self.files():
            for part in ast.walk(ast.parse(path.read_text())):
                if isinstance(part, ast.FunctionDef):
                    self.assertLessEqual(part.end_lineno - part.lineno + 1, 40, part.name)

    def test_characters(self):
        for path in self.files():
            strange = [sign for sign in path.read_bytes() if not (sign == 10 or 32 <= sign <= 126)]
            self.assertEqual(strange, [], path.name)

    def test_no_other_files(self):
        others = [path for path in PACKAGE.rglob('*') if path.is_file() and path.suffix not in ('.py', '.pyc')]
        self.assertEqual(others, [])


if __name__ == '__main__':
    unittest.main()
