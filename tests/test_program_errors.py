import unittest

from freshplaces.errors import (DuplicateName, FreshError, InvalidCall, InvalidCarry, InvalidTree, TooLarge,
                                UnknownName)
from freshplaces.programs import Program
from freshplaces.texts import parse
from strange import strange_values

TREE = (
    ('a', 'b'), (('k', (3, (('a', 1), ('b', -2)))),), ('h',),
    (('main', (
        ('set', 'a', (1, (('a', 1), ('k', 2))), ('k',)), ('input', 'b', ('k',)), ('tell', (0, (('k', 1),))),
        ('fresh', 'k'), ('call', 'h'), ('pause',),
        ('if', (('while', (('tell', (0, ())), ('set', 'b', (0, ()), ()))),), (('pause',),)))),
     ('h', (('tell', (-1, ())),))))


def changed(value, path, other):
    """The value with the part at a path, a list of indexes, replaced."""
    if not path:
        return other
    at = path[0]
    return value[:at] + (changed(value[at], path[1:], other),) + value[at + 1:]


def paths(value):
    """The paths to all parts of a value, the value itself first."""
    yield []
    if isinstance(value, tuple):
        for at, part in enumerate(value):
            for path in paths(part):
                yield [at] + path


def part_at(value, path):
    for at in path:
        value = value[at]
    return value


def nested(depth):
    """A block in which blocks are nested so deep."""
    return (('while', nested(depth - 1)),) if depth > 1 else ()


def nested_else(depth):
    return (('if', (), nested_else(depth - 1)),) if depth > 1 else ()


def plain(block=(), base=('a',), kept=(), handlers=(), more=()):
    return (base, kept, handlers, (('main', block),) + more)


class Trees(unittest.TestCase):
    def refused(self, tree):
        with self.subTest(tree=tree), self.assertRaises(InvalidTree) as caught:
            Program(tree)
        self.assertIs(caught.exception.value, tree)
        self.assertIs(type(caught.exception), InvalidTree)

    def test_the_tree_is_one(self):
        self.assertEqual(Program(TREE).tree(), TREE)

    def test_other_kinds(self):
        for value in strange_values() + ['base a def main { }', list(TREE), TREE[:3], TREE + ((),), TREE[0]]:
            self.refused(value)

    def test_a_part_of_another_kind(self):
        """A part that is replaced by what is no name, no integer, no expression and no tuple fits nowhere."""
        for path in paths(TREE):
            old = part_at(TREE, path)
            for other in [None, True, False, 1.0, b'a', [], ['a'], {}, {'a': 1}, {1}, 'no name', 'A', '']:
                if path:
                    self.refused(changed(TREE, path, other))
            if isinstance(old, tuple) and path:
                self.refused(changed(TREE, path, list(old)))

    def test_a_part_of_another_length(self):
        """Names, formulas, carried, terms and blocks may be of any length; all other tuples may not."""
        for path in paths(TREE):
            old = part_at(TREE, path)
            if not isinstance(old, tuple):
                continue
            for other in [old + ('x y',), old + (None,), ('x y',) + old]:
                self.refused(changed(TREE, path, other))
        for path in [[], [1, 0], [1, 0, 1], [1, 0, 1, 1, 0], [3, 0], [3, 0, 1, 0], [3, 0, 1, 1], [3, 0, 1, 2], [3, 0, 1, 3],
                     [3, 0, 1, 4], [3, 0, 1, 5], [3, 0, 1, 6], [3, 0, 1, 6, 1, 0]]:
            old = part_at(TREE, path)
            for other in [old[:-1], old + (old[-1],), old + ((),), ()]:
                self.refused(changed(TREE, path, other))

    def test_empty_parts(self):
        self.refused(changed(TREE, [0], ()))
        self.refused(changed(TREE, [3], ()))
        self.assertEqual(Program((('a',), (), (), (('main', ()),))).kept, ())

    def test_keywords_and_other_words_as_names(self):
        names = [[0, 0], [1, 0, 0], [1, 0, 1, 1, 0, 0], [2, 0], [3, 0, 0], [3, 0, 1, 0, 1], [3, 0, 1, 0, 2, 1, 0, 0],
                 [3, 0, 1, 0, 3, 0], [3, 0, 1, 1, 1], [3, 0, 1, 1, 2, 0], [3, 0, 1, 3, 1], [3, 0, 1, 4, 1]]
        for path in names:
            self.assertIsInstance(part_at(TREE, path), str)
            for word in ['base', 'kept', 'handlers', 'def', 'if', 'else', 'while', 'tell', 'fresh', 'carry', 'call', 'pause',
                         '', 'K', '1', '1a', 'a_b', 'a ', 'a\n', '\u00e9', 7, None, True, ('a',), ['a'], b'a']:
                self.refused(changed(TREE, path, word))

    def test_words_of_statements(self):
        for at in range(7):
            for word in ['', 'let', 'Set', 'else', 'def', 'carry', 'SET', None, 0, True, ('set',), ['set'], b'set']:
                self.refused(changed(TREE, [3, 0, 1, at, 0], word))
        self.refused(plain(((),)))
        self.refused(plain((('set',),)))
        self.refused(plain(('pause',)))
        self.refused(plain('pause'))
        for other in ['tell', 'if', 'pause']:
            self.refused(changed(TREE, [3, 0, 1, 0, 0], other))

    def test_expressions(self):
        good = [(0, ()), (5, (('a', 1),)), (-1, (('a', 1), ('b', -1))), (0, (('b', 7), ('k', 1)))]
        bad = [(), (0,), ((),), (0, (), ()), (True, ()), (0, (('a', True),)), (0, (('a', False),)), (0, (('a', 0),)),
               (0, (('b', 1), ('a', 1))), (0, (('a', 1), ('a', 1))), (0, (('a', 1), ('k', 1), ('b', 1))), (0, ('a', 1)),
               (0, (('a',),)), (0, (('a', 1, 1),)), (0, (['a', 1],)), (0, [('a', 1)]), [0, ()], (0, ((1, 'a'),)), (0, 'a'),
               ('0', ()), (0.0, ()), (None, ()), (0, (('a', 1.0),)), (0, (('a', None),)), (0, {'a': 1}), (0, None), 0, 'a',
               (0, (('a', 1), None)), (0, (('a10', 1), ('a1', 1))), (0, (('tell', 1),)), (0, (('a', 1), ('b', 0)))]
        for place in [[1, 0, 1], [3, 0, 1, 0, 2], [3, 0, 1, 2, 1], [3, 0, 1, 6, 1, 0, 1, 0, 1]]:
            for expression in bad:
                self.refused(changed(TREE, place, expression))
        for expression in good:
            self.assertEqual(Program(changed(TREE, [3, 0, 1, 0, 2], expression)).block('main')[0][2], expression)

    def test_blocks_thirty_deep_and_one_more(self):
        for make in (nested, nested_else):
            with self.assertRaises(TooLarge) as caught:
                Program(plain(make(30)))
            self.assertEqual(caught.exception.word, 'nesting')
            self.refused(plain(make(31)))
            self.refused(plain((), more=(('p', make(31)),)))
            self.refused(plain((('pause',),) + make(31)))

    def test_the_form_comes_ahead_of_all_else(self):
        self.refused((('a',) * 9, (), (), (('main', (('call', 'main'), ('tell', (True, ())))),)))
        self.refused((('a', 'a'), (), ('x',), (('main', [('pause',)]),)))
        self.refused((('a', 'b', 'c', 'd', 'e'), (), (), (('main', nested(31)),)))


class Sizes(unittest.TestCase):
    """For each word just as much as is allowed, one more, and two at once."""

    def at_least(self, **given):
        """A tree with so much of each."""
        have = {'base': 1, 'kept': 0, 'handlers': 0, 'procedures': 1, 'statements': 0, 'nesting': 1, 'numbers': 1}
        have.update(given)
        kept = tuple(('k%d' % at, (0, (('a0', 1),))) for at in range(have['kept']))
        block = nested(have['nesting'])
        block = block + (('tell', (10 ** (have['numbers'] - 1), ())),)
        block = block + (('pause',),) * (have['statements'] - have['nesting'])
        procedures = [('p%d' % at, ()) for at in range(max(have['procedures'], have['handlers'] + 1))]
        procedures[0] = ('p0', block)
        handlers = tuple('p%d' % (at + 1) for at in range(have['handlers']))
        return (tuple('a%d' % at for at in range(have['base'])), kept, handlers, tuple(procedures))

    def refused(self, word, tree):
        with self.subTest(word=word), self.assertRaises(TooLarge) as caught:
            Program(tree)
        self.assertEqual(caught.exception.word, word)
        self.assertIs(type(caught.exception), TooLarge)

    MOST = {'base': 4, 'kept': 3, 'handlers': 3, 'procedures': 6, 'statements': 60, 'nesting': 6, 'numbers': 12}

    def test_just_as_much_and_one_more(self):
        for word, most in self.MOST.items():
            self.assertEqual(Program(self.at_least(**{word: most})).start, 'p0')
            self.refused(word, self.at_least(**{word: most + 1}))
        self.assertEqual(Program(self.at_least(**self.MOST)).start, 'p0')

    def test_two_at_once(self):
        words = list(self.MOST)
        for at, word in enumerate(words):
            for later in words[at + 1:]:
                self.refused(word, self.at_least(**{word: self.MOST[word] + 1, later: self.MOST[later] + 1}))
                self.refused(word, self.at_least(**{later: self.MOST[later] + 1, word: self.MOST[word] + 1}))

    def test_all_at_once(self):
        self.refused('base', self.at_least(**{word: most + 1 for word, most in self.MOST.items()}))

    def test_statements_of_all_procedures_together(self):
        half = (('tell', (0, ())),) * 15 + (('while', (('tell', (0, ())),) * 14),)
        self.assertEqual(Program(plain(half, more=(('p', half),))).extent('p'), 30)
        self.refused('statements', plain(half, more=(('p', half), ('q', (('pause',),)))))
        self.refused('statements', plain((('if', half, half),)))

    def test_nesting_in_each_procedure(self):
        self.assertEqual(Program(plain(nested_else(6))).extent('main'), 5)
        self.refused('nesting', plain(nested_else(7)))
        self.refused('nesting', plain(more=(('p', nested(7)),)))
        self.refused('nesting', plain(nested(3) + nested(7) + nested(2)))

    def test_numbers(self):
        most, more = 10 ** 12 - 1, 10 ** 12
        for sign in (1, -1):
            for make in [lambda n: plain((('tell', (n, ())),)), lambda n: plain((('tell', (0, (('a', n),))),)),
                         lambda n: plain((('set', 'a', (n, ()), ()),)),
                         lambda n: plain((('if', (), (('set', 'a', (1, (('a', n),)), ()),)),)),
                         lambda n: plain(kept=(('k', (n, ())),)), lambda n: plain(kept=(('k', (1, (('a', n),))),)),
                         lambda n: plain(more=(('p', (('while', (('tell', (n, ())),)),)),))]:
                self.assertEqual(Program(make(sign * most)).start, 'main')
                self.refused('numbers', make(sign * more))
                self.refused('numbers', make(sign * 10 ** 900))
        self.refused('numbers', parse('base a def m { tell 999999999999 + 1 }'))

    def test_sizes_come_ahead_of_names(self):
        self.refused('base', plain((('call', 'x'),), base=('a',) * 5))
        self.refused('kept', plain(kept=(('a', (0, (('z', 1),))),) * 4))
        self.refused('handlers', plain(handlers=('x',) * 4))
        self.refused('procedures', (('a',), (), (), (('a', ()),) * 7))
        self.refused('statements', plain((('call', 'main'),) * 61))
        self.refused('nesting', plain(nested(6) + (('call', 'x'), ('while', nested(6)))))
        self.refused('numbers', plain((('tell', (10 ** 12, (('x', 1),))),)))


class Extents(unittest.TestCase):
    def calls(self, many, size, extra):
        """One procedure that calls another one of a size so often, and has extra statements."""
        return plain((('call', 'p'),) * many + (('pause',),) * extra, more=(('p', (('pause',),) * size),))

    def refused(self, tree):
        with self.assertRaises(TooLarge) as caught:
            Program(tree)
        self.assertEqual(caught.exception.word, 'calls')

    def test_by_calls(self):
        self.assertEqual(Program(self.calls(19, 20, 1)).extent('main'), 400)
        self.refused(self.calls(19, 20, 2))
        self.refused(self.calls(20, 20, 0))

    def test_by_pauses(self):
        more = (('h', (('tell', (0, ())),) * 12), ('i', (('tell', (0, ())),) * 8))
        block = (('pause',),) * 19
        program = Program(plain(block + (('tell', (0, ())),), handlers=('h', 'i'), more=more))
        self.assertEqual(program.extent('main'), 19 * 21 + 1)
        self.refused(plain(block + (('tell', (0, ())),) * 2, handlers=('i', 'h'), more=more))

    def test_through_several(self):
        more = (('p', (('call', 'q'),) * 7), ('q', (('call', 'r'),) * 2), ('r', (('pause',),) * 2))
        program = Program(plain((('call', 'p'),) * 7 + (('pause',),) * 42, more=more))
        self.assertEqual([program.extent(name) for name in 'rqp'], [2, 2 + 2 * 2, 7 + 7 * 6])
        self.assertEqual(program.extent('main'), 7 + 7 * 49 + 42)
        self.assertEqual(Program(plain((('call', 'p'),) * 8, more=more)).extent('main'), 400)
        self.refused(plain((('call', 'p'),) * 8 + (('pause',),), more=more))

    def test_of_a_procedure_that_is_not_the_first_one(self):
        self.refused((('a',), (), (), (('main', ()), ('p', (('call', 'q'),) * 20), ('q', (('pause',),) * 20))))
        exact = (('call', 'q'),) * 19 + (('pause',),)
        program = Program((('a',), (), (), (('main', ()), ('p', exact), ('q', (('pause',),) * 20))))
        self.assertEqual((program.extent('main'), program.extent('p')), (0, 400))

    def test_calls_come_last(self):
        tree = self.calls(20, 20, 0)
        wrong = changed(tree, [3, 1, 1, 19], ('fresh', 'x'))
        self.assertRaises(UnknownName, Program, wrong)
        self.assertRaises(InvalidCall, Program, changed(tree, [3, 1, 1, 19], ('call', 'main')))


class Names(unittest.TestCase):
    def refused(self, error, field, value, text):
        with self.subTest(text=text), self.assertRaises(FreshError) as caught:
            Program.read(text)
        self.assertIs(type(caught.exception), error)
        self.assertEqual(getattr(caught.exception, field), value)

    def test_duplicate_names(self):
        for text, name in [
                ('base a a def m { }', 'a'), ('base a b a def m { }', 'a'), ('base a b b a def m { }', 'b'),
                ('base a kept a = 1 def m { }', 'a'), ('base a kept k = 1 kept k = a def m { }', 'k'),
                ('base a def a { }', 'a'), ('base a kept k = a def m { } def k { }', 'k'),
                ('base a def m { } def m { }', 'm'), ('base a b kept b = 1 def a { }', 'b'),
                ('base a b def b { } def a { }', 'b'), ('base a handlers h h def m { } def h { }', 'h'),
                ('base a handlers h i i h def m { } def h { } def i { }'.replace('h i i h', 'h i i'), 'i'),
                ('base a handlers x x def m { }', 'x'), ('base a handlers h h def m { } def a { }', 'a')]:
            self.refused(DuplicateName, 'name', name, text)

    def test_duplicate_names_come_ahead_of_unknown_ones(self):
        self.refused(DuplicateName, 'name', 'm', 'base a kept k = z handlers y def m { tell x } def m { }')
        self.refused(DuplicateName, 'name', 'y', 'base a kept k = z handlers y y def m { tell x }')

    def test_handlers_may_have_the_names_of_procedures_alone(self):
        self.assertEqual(Program.read('base a handlers m def m { }').handlers, ('m',))
        self.refused(UnknownName, 'name', 'a', 'base a handlers a def m { }')
        self.refused(UnknownName, 'name', 'k', 'base a kept k = a handlers h k def m { } def h { }')
        self.refused(UnknownName, 'name', 'x', 'base a handlers x y def m { pause }')

    def test_formulas(self):
        self.refused(UnknownName, 'name', 'x', 'base a kept k = x def m { }')
        self.refused(UnknownName, 'name', 'k', 'base a kept k = k def m { }')
        self.refused(UnknownName, 'name', 'k', 'base a kept j = a + k kept k = j + x def m { }')
        self.refused(UnknownName, 'name', 'b', 'base a kept k = z + y + b def m { }')
        self.refused(UnknownName, 'name', 'm', 'base a kept k = m def m { }')
        self.refused(UnknownName, 'name', 'x', 'base a kept k = x handlers y def m { tell z }')
        self.assertEqual(Program.read('base a kept j = a kept k = j + a def m { }').kept, ('j', 'k'))
        self.assertEqual(Program.read('base a kept k = 0*x + 2 def m { }').formula('k'), (2, ()))

    def test_statements(self):
        head = 'base a b kept k = a + b kept j = b def m { '
        for text, name in [
                ('x = 1', 'x'), ('k = 1', 'k'), ('m = 1', 'm'), ('x = ?', 'x'), ('k = ?', 'k'), ('a = x', 'x'),
                ('a = z + y + a', 'y'), ('a = m', 'm'), ('tell x', 'x'), ('tell m', 'm'), ('tell b + c + a', 'c'),
                ('a = 1 carry x', 'x'), ('a = 1 carry a', 'a'), ('b = 1 carry k, x, y', 'x'), ('a = ? carry m', 'm'),
                ('a = ? carry k, b', 'b'), ('fresh x', 'x'), ('fresh a', 'a'), ('fresh m', 'm'), ('call x', 'x'),
                ('call a', 'a'), ('call k', 'k'), ('x = y carry z', 'x'), ('a = y carry x', 'y'),
                ('if { tell 1 } else { while { fresh x } } tell y', 'x'), ('tell 1 tell 2 tell x', 'x')]:
            self.refused(UnknownName, 'name', name, head + text + ' }')

    def test_the_first_statement_counts(self):
        self.refused(UnknownName, 'name', 'y', 'base a def m { } def p { tell y } def q { tell x }')
        self.refused(UnknownName, 'name', 'x', 'base a def m { if { tell x } tell y }')
        self.refused(UnknownName, 'name', 'x', 'base a def m { } def p { while { tell x } } def q { call m }')

    def test_invalid_calls(self):
        for text, place in [
                ('base a def m { call m }', 0), ('base a def m { tell 1 while { call m } }', 2),
                ('base a def m { } def p { tell 0 call m }', 1), ('base a def m { call p } def p { call p }', 0),
                ('base a handlers m def m { pause }', 0), ('base a handlers p def m { } def p { tell a pause }', 1),
                ('base a handlers p q def m { } def p { } def q { } def r { if { pause } }', 1),
                ('base a handlers q p def m { } def p { pause } def q { }', 0),
                ('base a handlers p q def m { pause } def p { call q } def q { if { } call p }', 1)]:
            self.refused(InvalidCall, 'place', place, text)

    def test_calls_that_are_allowed(self):
        program = Program.read('base a handlers p q def m { pause call p call r } def p { } def q { } def r { }')
        self.assertEqual(program.callees('m'), ['p', 'q', 'r'])
        self.assertEqual(Program.read('base a def m { } def p { pause }').extent('p'), 1)
        self.assertEqual(Program.read('base a handlers q def m { } def p { pause } def q { }').callees('p'), ['q'])

    def test_invalid_carries(self):
        head = 'base a b c kept k = a - b kept j = k + b kept i = 2*j def m { '
        for text, place in [
                ('a = 1 carry k, k', 0), ('a = ? carry k, j, k', 0), ('c = 1 carry k', 0), ('c = ? carry k', 0),
                ('b = 1 carry j', 0), ('b = ? carry i', 0), ('b = 1 carry k, i', 0), ('tell 1 if { a = 1 carry j, j }', 2),
                ('a = 1 carry k b = ? carry k, j', 1)]:
            self.refused(InvalidCarry, 'place', place, head + text + ' }')
        program = Program.read(head + 'a = 1 carry i, k, j b = ? carry k c = ? }')
        self.assertEqual(len(program.block('m')), 3)

    def test_factors_that_cancel_out(self):
        text = 'base a b kept k = a + b kept j = 2*k - 2*a def m { %s carry j }'
        self.assertEqual(Program.read(text % 'b = 1').kept, ('k', 'j'))
        self.refused(InvalidCarry, 'place', 0, text % 'a = 1')
        self.refused(InvalidCarry, 'place', 0, text % 'a = ?')
        self.refused(InvalidCarry, 'place', 0, 'base a kept k = 7 def m { a = 1 carry k }')

    def test_two_at_once(self):
        self.refused(UnknownName, 'name', 'x', 'base a kept k = 1 def m { a = x carry k }')
        self.refused(UnknownName, 'name', 'x', 'base a kept k = 1 def m { a = ? carry k, x }')
        self.refused(InvalidCarry, 'place', 0, 'base a kept k = 1 def m { a = 1 carry k tell x }')
        self.refused(UnknownName, 'name', 'x', 'base a kept k = 1 def m { tell x a = 1 carry k }')
        self.refused(InvalidCall, 'place', 0, 'base a kept k = 1 def m { call m a = 1 carry k tell x }')
        self.refused(InvalidCarry, 'place', 0, 'base a kept k = 1 def m { a = 1 carry k call m tell x }')
        self.refused(UnknownName, 'name', 'x', 'base a kept k = 1 def m { tell x call m }')
        self.refused(InvalidCall, 'place', 0, 'base a kept k = 1 def m { call m tell x }')
        self.refused(UnknownName, 'name', 'z', 'base a kept k = 1 handlers z def m { call m a = 1 carry k tell x }')
        self.refused(UnknownName, 'name', 'y', 'base a kept k = y handlers z def m { call m }')
        self.refused(InvalidCall, 'place', 1, 'base a def m { tell 1 call m } def p { call m }')
        self.refused(InvalidCarry, 'place', 0, 'base a kept k = 1 def m { a = ? carry k } def p { call m }')


if __name__ == '__main__':
    unittest.main()
