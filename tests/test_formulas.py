import unittest

from draws import Draws
from freshplaces.errors import UnknownName
from freshplaces.formulas import factor_of, sources, unfolded
from freshplaces.programs import Program
from strange import strange_values

PROGRAM = Program.read('base c a b kept k = a - b + 1 kept j = 2*k + 2*b - 3 kept i = k - j - c + 5 def main { }')


class Formulas(unittest.TestCase):
    def test_example_of_the_document(self):
        program = Program.read('base a b kept j = a - b kept k = 2*j + b + 1 def main { }')
        self.assertEqual((unfolded(program, 'k'), factor_of(program, 'k', 'b'), sources(program, 'j')),
                         ((1, (('a', 2), ('b', -1))), -1, ('a', 'b')))

    def test_unfolded(self):
        self.assertEqual(unfolded(PROGRAM, 'k'), (1, (('a', 1), ('b', -1))))
        self.assertEqual(unfolded(PROGRAM, 'j'), (-1, (('a', 2),)))
        self.assertEqual(unfolded(program=PROGRAM, name='i'), (7, (('a', -1), ('b', -1), ('c', -1))))

    def test_constants_alone(self):
        program = Program.read('base a kept k = 0 kept j = 3*k + 4 kept i = j - j + k def main { }')
        self.assertEqual([unfolded(program, name) for name in 'kji'], [(0, ()), (4, ()), (0, ())])
        self.assertEqual([sources(program, name) for name in 'kji'], [(), (), ()])
        self.assertEqual([factor_of(program, name, 'a') for name in 'kji'], [0, 0, 0])

    def test_factors(self):
        table = [[factor_of(PROGRAM, kept, base) for base in PROGRAM.base] for kept in PROGRAM.kept]
        self.assertEqual(table, [[0, 1, -1], [0, 2, 0], [-1, -1, -1]])
        self.assertEqual(factor_of(program=PROGRAM, name='j', base='a'), 2)

    def test_sources_stand_in_the_order_of_the_program(self):
        self.assertEqual([sources(PROGRAM, kept) for kept in PROGRAM.kept], [('a', 'b'), ('a',), ('c', 'a', 'b')])
        self.assertEqual(sources(program=PROGRAM, name='k'), ('a', 'b'))

    def test_large_factors(self):
        n = 999999999999
        program = Program.read('base a kept k = %d*a kept j = %d*k + %d kept i = -%d*j - 1 def main { }' % (n, n, n, n))
        self.assertEqual(unfolded(program, 'i'), (-n * n - 1, (('a', -n ** 3),)))

    def test_values(self):
        """The unfolded formula has the value of the formula, where the kept variables have theirs."""
        draws = Draws(51)
        for _ in range(100):
            names, kept = ['c', 'a', 'b'], []
            for name in ('y', 'x', 'z'):
                terms = sorted(draws.shuffled(names)[:draws.below(4)])
                kept.append((name, (draws.between(-3, 3), tuple((v, draws.one_of([-2, -1, 1, 2])) for v in terms))))
                names.append(name)
            program = Program((('c', 'a', 'b'), tuple(kept), (), (('main', ()),)))
            values = {name: draws.between(-50, 50) for name in program.base}
            for name, (constant, terms) in kept:
                values[name] = constant + sum(factor * values[variable] for variable, factor in terms)
            for name in program.kept:
                constant, terms = unfolded(program, name)
                self.assertEqual(constant + sum(factor * values[base] for base, factor in terms), values[name])
                self.assertEqual([base for base, _ in terms], sorted(sources(program, name)))
                self.assertEqual(dict(terms), {base: factor_of(program, name, base) for base in sources(program, name)})
                self.assertEqual(sources(program, name), tuple(b for b in program.base if b in dict(terms)))


class Errors(unittest.TestCase):
    def test_names_that_are_no_kept_variables(self):
        for value in ['a', 'c', 'main', 'x', '', 'K', ('k',), ['k'], b'k'] + strange_values():
            for call in [lambda: unfolded(PROGRAM, value), lambda: sources(PROGRAM, value),
                         lambda: factor_of(PROGRAM, value, 'a'), lambda: factor_of(PROGRAM, value, 'x')]:
                with self.subTest(value=value), self.assertRaises(UnknownName) as caught:
                    call()
                self.assertIs(caught.exception.name, value)

    def test_names_that_are_no_base_variables(self):
        for value in ['k', 'main', 'x', '', 'A', ('a',), ['a'], b'a'] + strange_values():
            with self.subTest(value=value), self.assertRaises(UnknownName) as caught:
                factor_of(PROGRAM, 'k', value)
            self.assertIs(caught.exception.name, value)

    def test_the_kept_variable_comes_first(self):
        with self.assertRaises(UnknownName) as caught:
            factor_of(PROGRAM, 'one', 'other')
        self.assertEqual(caught.exception.name, 'one')


if __name__ == '__main__':
    unittest.main()
