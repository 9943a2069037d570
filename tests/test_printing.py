import unittest

from draws import Draws
from freshplaces.printing import show, show_expression
from freshplaces.texts import parse
from trees_drawn import expression as drawn_expression


class Expressions(unittest.TestCase):
    def test_forms(self):
        for expression, text in [
                ((0, ()), '0'), ((5, ()), '5'), ((-5, ()), '-5'), ((999999999999, ()), '999999999999'),
                ((0, (('a', 1),)), 'a'), ((0, (('a', -1),)), '-a'), ((0, (('a', 2),)), '2*a'),
                ((0, (('a', -2),)), '-2*a'), ((3, (('a', 1),)), 'a + 3'), ((-3, (('a', -1),)), '-a - 3'),
                ((-3, (('a', -2), ('b', 1))), '-2*a + b - 3'), ((0, (('a', 1), ('b', -1))), 'a - b'),
                ((1, (('a', -1), ('b', 10), ('c', -10))), '-a + 10*b - 10*c + 1'),
                ((0, (('a1', 12), ('a2', -12))), '12*a1 - 12*a2')]:
            self.assertEqual(show_expression(expression), text)
        self.assertEqual(show_expression(expression=(1, ())), '1')

    def test_they_are_read_back(self):
        draws = Draws(31)
        for _ in range(300):
            expression = drawn_expression(draws)
            tree = parse('base a def m { tell ' + show_expression(expression) + ' }')
            self.assertEqual(tree[3][0][1], (('tell', expression),))


class Show(unittest.TestCase):
    def test_examples_of_the_document(self):
        tree = parse('base a b kept k = a + 2*b handlers h def main { a = a - 1 carry k pause tell k } '
                     'def h { b = ? }')
        self.assertEqual(show(tree), 'base a b\nkept k = a + 2*b\nhandlers h\ndef main {\n  a = a - 1 carry k\n'
                                     '  pause\n  tell k\n}\ndef h {\n  b = ?\n}\n')

    def test_what_is_left_out(self):
        self.assertEqual(show((('a',), (), (), (('main', ()),))), 'base a\ndef main {\n}\n')
        self.assertEqual(show(tree=(('a', 'b'), (), ('main', 'p'), (('main', ()), ('p', ())))),
                         'base a b\nhandlers main p\ndef main {\n}\ndef p {\n}\n')

    def test_statements(self):
        block = (('set', 'a', (1, ()), ()), ('set', 'a', (0, (('a', -1),)), ('j',)), ('input', 'a', ()),
                 ('input', 'a', ('k', 'j')), ('tell', (0, ())), ('fresh', 'k'), ('call', 'p'), ('pause',))
        self.assertEqual(show((('a',), (), (), (('m', block),))),
                         'base a\ndef m {\n  a = 1\n  a = -a carry j\n  a = ?\n  a = ? carry k, j\n  tell 0\n'
                         '  fresh k\n  call p\n  pause\n}\n')

    def test_blocks(self):
        block = (('if', (('pause',),), ()), ('if', (), ()), ('if', (), (('pause',),)),
                 ('if', (('while', (('pause',),)),), (('if', (), (('while', ()),)), ('pause',))), ('while', ()))
        self.assertEqual(show((('a',), (), (), (('m', block),))), '''base a
def m {
  if {
    pause
  }
  if {
  }
  if {
  } else {
    pause
  }
  if {
    while {
      pause
    }
  } else {
    if {
    } else {
      while {
      }
    }
    pause
  }
  while {
  }
}
''')

    def test_the_tree_and_the_text_stay(self):
        tree = parse('base a def m { if { } else { tell a } }')
        self.assertEqual(show(tree), show(tree))
        self.assertEqual(parse(show(tree)), tree)


if __name__ == '__main__':
    unittest.main()
