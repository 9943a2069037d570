import unittest

from draws import Draws
from freshplaces.errors import InvalidSyntax, InvalidText, TooLarge
from freshplaces.printing import show
from freshplaces.texts import is_name, parse, parse_procedure
from strange import strange_values
from trees_drawn import tree as drawn_tree

KEYWORDS = 'base kept handlers def if else while tell fresh carry call pause'.split()
ALL = '''base a b x1
kept j = a - b
kept k = 2*j + 3
handlers h
def main {
  a = ?
  a = ? carry j
  b = a + 1 carry j, k
  tell -k
  fresh k
  call p
  pause
  if {
    tell 1
  } else {
    while {
    }
  }
  if {
  }
  x1 = 0
}
def p {
}
def h {
  tell 0
}
'''
TREE = (
    ('a', 'b', 'x1'),
    (('j', (0, (('a', 1), ('b', -1)))), ('k', (3, (('j', 2),)))),
    ('h',),
    (('main', (
        ('input', 'a', ()), ('input', 'a', ('j',)), ('set', 'b', (1, (('a', 1),)), ('j', 'k')),
        ('tell', (0, (('k', -1),))), ('fresh', 'k'), ('call', 'p'), ('pause',),
        ('if', (('tell', (1, ())),), (('while', ()),)), ('if', (), ()), ('set', 'x1', (0, ()), ()))),
     ('p', ()), ('h', (('tell', (0, ())),))))


def told(text):
    """The expression of a tell with this text."""
    return parse('base a def main { tell ' + text + ' }')[3][0][1][0][1]


def block_of(text):
    return parse('base a def main {' + text + '}')[3][0][1]


def nested(depth, head='while'):
    """The text of blocks so deep, the outermost one of a procedure."""
    return '{' + (head + '{') * (depth - 1) + '}' * depth


class Parse(unittest.TestCase):
    def test_examples_of_the_document(self):
        self.assertEqual(
            show(parse('base x kept k = 2*x def main { x = 1 - x + 2 carry k while { tell k } }')),
            'base x\nkept k = 2*x\ndef main {\n  x = -x + 3 carry k\n  while {\n    tell k\n  }\n}\n')
        tree = parse('base a b kept k = a + 2*b handlers h def main { a = a - 1 carry k pause tell k } '
                     'def h { b = ? }')
        self.assertEqual((tree[1], tree[3][1]),
                         ((('k', (0, (('a', 1), ('b', 2)))),), ('h', (('input', 'b', ()),))))

    def test_every_kind_of_statement(self):
        self.assertEqual(parse(ALL), TREE)
        self.assertEqual(parse(text=ALL), TREE)

    def test_blanks_do_not_matter(self):
        signs = '=+-*?{},'
        self.assertEqual(parse(' '.join(ALL.split())), TREE)
        self.assertEqual(parse(' \n\n ' + ALL.replace(' ', '\n\n  ') + '\n  \n'), TREE)
        wide = narrow = ALL
        for sign in signs:
            wide = wide.replace(sign, ' \n ' + sign + '  ')
        self.assertEqual(parse(wide), TREE)
        narrow = ' '.join(ALL.split())
        for sign in signs:
            narrow = narrow.replace(' ' + sign, sign).replace(sign + ' ', sign)
        self.assertEqual(parse(narrow), TREE)
        self.assertEqual(parse('base a def main{}'), (('a',), (), (), (('main', ()),)))

    def test_numbers(self):
        self.assertEqual(told('0'), (0, ()))
        self.assertEqual(told('-0'), (0, ()))
        self.assertEqual(told('-7'), (-7, ()))
        self.assertEqual(told('999999999999'), (999999999999, ()))
        self.assertEqual(told('-999999999999*a'), (0, (('a', -999999999999),)))
        self.assertEqual(told('100000000000'), (100000000000, ()))

    def test_sums(self):
        self.assertEqual(told('a + a'), (0, (('a', 2),)))
        self.assertEqual(told('a - a'), (0, ()))
        self.assertEqual(told('2*a + b - 3*a + a'), (0, (('b', 1),)))
        self.assertEqual(told('0*a'), (0, ()))
        self.assertEqual(told('0*a + 0*b + b'), (0, (('b', 1),)))
        self.assertEqual(told('-a + 1 - 2 + b*1'.replace('b*1', '1*b')), (-1, (('a', -1), ('b', 1))))
        self.assertEqual(told('1 + 2 + 3 - 10'), (-4, ()))
        self.assertEqual(told('z + b2 + b10 + b'), (0, (('b', 1), ('b10', 1), ('b2', 1), ('z', 1))))
        self.assertEqual(told('-2*a + b - 3'), (-3, (('a', -2), ('b', 1))))
        self.assertEqual(told('999999999999 + 999999999999'), (1999999999998, ()))
        self.assertEqual(told('999999999999*a + a'), (0, (('a', 10 ** 12),)))
        self.assertEqual(told('a-b'), (0, (('a', 1), ('b', -1))))

    def test_names_beside_keywords(self):
        for word in KEYWORDS:
            for name in (word + 's', word + '1', word[:-1] + 'q', 'q' + word, word[:-1]):
                if name not in KEYWORDS:
                    with self.subTest(name=name):
                        self.assertEqual(block_of('call ' + name), (('call', name),))
                        self.assertEqual(block_of(name + ' = 1'), (('set', name, (1, ()), ()),))
        self.assertEqual(block_of('call a1b2c3'), (('call', 'a1b2c3'),))

    def test_statements_side_by_side(self):
        self.assertEqual(block_of('a = b c = d'), (('set', 'a', (0, (('b', 1),)), ()), ('set', 'c', (0, (('d', 1),)), ())))
        self.assertEqual(block_of('a = 1 carry k b = ?'), (('set', 'a', (1, ()), ('k',)), ('input', 'b', ())))
        self.assertEqual(block_of('a = ? carry k, j, i pause'), (('input', 'a', ('k', 'j', 'i')), ('pause',)))
        self.assertEqual(block_of('tell a -b tell c'), (('tell', (0, (('a', 1), ('b', -1)))), ('tell', (0, (('c', 1),)))))
        self.assertEqual(block_of('a = ? carry k, k'), (('input', 'a', ('k', 'k')),))

    def test_if(self):
        self.assertEqual(block_of('if { }'), (('if', (), ()),))
        self.assertEqual(block_of('if { } else { }'), (('if', (), ()),))
        self.assertEqual(block_of('if { pause } else { }'), (('if', (('pause',),), ()),))
        self.assertEqual(block_of('if { } else { pause }'), (('if', (), (('pause',),)),))
        self.assertEqual(block_of('if { if { } else { pause } }'), (('if', (('if', (), (('pause',),)),), ()),))
        self.assertEqual(block_of('if { if { } } else { pause }'), (('if', (('if', (), ()),), (('pause',),)),))

    def test_deep_blocks(self):
        for head in ('while', 'if', 'if{}else'):
            block = parse('base a def main ' + nested(30, head))[3][0][1]
            depth = 1
            while block:
                depth += 1
                block = block[0][-1] if head == 'if{}else' else block[0][1]
            self.assertEqual(depth, 30)
            with self.assertRaises(TooLarge) as caught:
                parse('base a def main ' + nested(31, head))
            self.assertEqual(caught.exception.word, 'nesting')

    def test_each_block_counts_those_around_it_alone(self):
        text = 'base a def main { while { } ' + nested(30)[1:-1] + ' while { } } def p ' + nested(30)
        self.assertEqual(len(parse(text)[3]), 2)

    def test_what_only_programs_must_keep_is_no_matter_here(self):
        self.assertEqual(parse('base a a def main { call main b = c }')[0], ('a', 'a'))

    def test_trees_that_are_written_are_read_back(self):
        draws = Draws(11)
        for _ in range(300):
            tree = drawn_tree(draws)
            text = show(tree)
            self.assertEqual(parse(text), tree)
            self.assertEqual(parse(text.replace('\n', ' ')), tree)
            self.assertEqual(parse('\n'.join(text.split())), tree)
            self.assertEqual(show(parse(text)), text)

    def test_equal_calls_return_equal_results(self):
        self.assertEqual(parse(ALL), parse(ALL))


class ParseProcedure(unittest.TestCase):
    def test_procedures(self):
        self.assertEqual(parse_procedure('def main { }'), ('main', ()))
        self.assertEqual(parse_procedure(text=' def p{tell k}\n'), ('p', (('tell', (0, (('k', 1),))),)))
        for name, block in TREE[3]:
            text = show((('a',), (), (), ((name, block),)))[len('base a\n'):]
            self.assertEqual(parse_procedure(text), (name, block))

    def test_deep_blocks(self):
        self.assertEqual(parse_procedure('def p' + nested(30).replace('def', ' def').replace('{', ' {', 1))[0], 'p')
        with self.assertRaises(TooLarge) as caught:
            parse_procedure('def p ' + nested(31))
        self.assertEqual(caught.exception.word, 'nesting')

    def test_errors(self):
        cases = [('def p { } def q { }', 10), ('def p { } }', 10), ('def p { } x', 10), ('def p { } $', 10),
                 ('base a def p { }', 0), ('kept k = a', 0), ('', 0), ('  ', 2), ('def', 3), ('def p', 5),
                 ('def p {', 7), ('def p { ', 8), ('def def { }', 4), ('def p { tell }', 13), ('handlers h', 0)]
        for text, position in cases:
            with self.subTest(text=text), self.assertRaises(InvalidSyntax) as caught:
                parse_procedure(text)
            self.assertEqual(caught.exception.position, position)

    def test_sizes(self):
        for text, word in [('def p { tell 1000000000000', 'numbers'), ('def p ' + nested(31) + '$', 'nesting')]:
            with self.assertRaises(TooLarge) as caught:
                parse_procedure(text)
            self.assertEqual(caught.exception.word, word)


class NoStrings(unittest.TestCase):
    def test_no_strings(self):
        for function in (parse, parse_procedure):
            for value in strange_values() + [b'base a def main { }', ['base'], ('base',), TREE]:
                with self.subTest(value=value), self.assertRaises(InvalidText) as caught:
                    function(value)
                self.assertIs(caught.exception.value, value)
                self.assertIs(type(caught.exception), InvalidText)


class IsName(unittest.TestCase):
    def test_names(self):
        for name in ['a', 'z', 'k1', 'main', 'a0', 'abc123', 'a1b2', 'set', 'input', 'any', 'right', 'x' * 20]:
            self.assertIs(is_name(name), True)
        self.assertIs(is_name(value='a'), True)

    def test_keywords(self):
        for word in KEYWORDS:
            self.assertIs(is_name(word), False)
            self.assertIs(is_name(word + 'x'), True)
            self.assertIs(is_name(word + '0'), True)

    def test_no_names(self):
        for value in ['', ' ', 'A', 'aB', 'a_b', '_', '_a', '1', '0', '1a', '12', '-a', 'a-b', 'a b', ' a', 'a ', 'a\n',
                      '\na', '\n', 'a\t', '\u00e9', 'a\u00e9', '\u00df', 'a\u00b2', 'a\u0661', '\u0430', 'a.', 'a,', '*',
                      '?', '=', 'a=1', 'base a', 'Base', '\u00aa']:
            with self.subTest(value=value):
                self.assertIs(is_name(value), False)

    def test_other_kinds(self):
        for value in strange_values() + [('a',), b'a', ['a'], {'a': 1}]:
            self.assertIs(is_name(value), False)


if __name__ == '__main__':
    unittest.main()
