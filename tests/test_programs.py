import unittest

from draws import Draws
from freshplaces.errors import InvalidText, InvalidTree, TooLarge, UnknownName, UnknownProcedure
from freshplaces.printing import show
from freshplaces.programs import Program
from freshplaces.texts import parse
from strange import Agreeing, strange_values

TEXT = '''
base a b
kept k = a + 2*b
kept j = 2*k - b
handlers h i
def main {
  a = ?
  if { call q b = k + j carry j } else { while { pause tell j + k } call p }
  tell a
}
def q { call p call p tell k - k + a }
def p { fresh k if { } a = j - k carry k, j }
def h { tell 2*j call i }
def i { b = 1 if { tell k } }
'''
PROGRAM = Program.read(TEXT)
ASKED = ['block', 'callees', 'reached', 'extent', 'uses']


def statements_of(block):
    """All statements of a block in the order of their places, found in another way."""
    waiting = list(block)
    while waiting:
        statement = waiting.pop(0)
        yield statement
        if statement[0] == 'if':
            waiting = list(statement[1]) + list(statement[2]) + waiting
        if statement[0] == 'while':
            waiting = list(statement[1]) + waiting


class Properties(unittest.TestCase):
    def test_example_of_the_document(self):
        program = Program.read('base a kept k = 2*a handlers h def main { call p pause } '
                               'def p { tell k } def h { a = 0 }')
        self.assertEqual((program.start, program.callees('main'), program.extent('main'), program.uses('p')),
                         ('main', ['h', 'p'], 4, [('p', 0, 'k')]))

    def test_names(self):
        self.assertEqual(PROGRAM.base, ('a', 'b'))
        self.assertEqual(PROGRAM.kept, ('k', 'j'))
        self.assertEqual(PROGRAM.handlers, ('h', 'i'))
        self.assertEqual(PROGRAM.procedures, ('main', 'q', 'p', 'h', 'i'))
        self.assertEqual(PROGRAM.start, 'main')

    def test_names_of_a_small_program(self):
        program = Program.read('base x def zero { }')
        self.assertEqual((program.base, program.kept, program.handlers, program.procedures, program.start),
                         (('x',), (), (), ('zero',), 'zero'))
        self.assertEqual((program.callees('zero'), program.reached('zero'), program.extent('zero'),
                          program.uses('zero'), list(program.statements('zero'))), ([], [], 0, [], []))

    def test_tree(self):
        self.assertEqual(PROGRAM.tree(), parse(TEXT))
        self.assertEqual(Program(tree=PROGRAM.tree()).tree(), parse(TEXT))

    def test_read(self):
        self.assertEqual(Program.read(text=show(PROGRAM.tree())), PROGRAM)
        for value in strange_values():
            with self.assertRaises(InvalidText) as caught:
                Program.read(value)
            self.assertIs(caught.exception.value, value)
        self.assertIs(type(Program.read('base a def m { }')), Program)

    def test_the_methods_stand_in_the_class(self):
        for name in ['base', 'kept', 'handlers', 'procedures', 'start', 'tree', 'formula', 'block', '__contains__',
                     '__len__', '__eq__', 'statements', 'callees', 'reached', 'extent', 'uses', 'replaced', 'read']:
            self.assertIn(name, vars(Program))
        self.assertIsInstance(vars(Program)['read'], classmethod)


class Questions(unittest.TestCase):
    def test_formula(self):
        self.assertEqual(PROGRAM.formula('k'), (0, (('a', 1), ('b', 2))))
        self.assertEqual(PROGRAM.formula(kept='j'), (0, (('b', -1), ('k', 2))))
        for value in ['a', 'main', '', 'K', 'kept'] + strange_values():
            with self.assertRaises(UnknownName) as caught:
                PROGRAM.formula(value)
            self.assertIs(caught.exception.name, value)

    def test_block(self):
        self.assertEqual(PROGRAM.block('h'), (('tell', (0, (('j', 2),))), ('call', 'i')))
        self.assertEqual([PROGRAM.block(name) for name in PROGRAM.procedures],
                         [block for _, block in parse(TEXT)[3]])

    def test_in(self):
        for name in PROGRAM.procedures:
            self.assertIs(name in PROGRAM, True)
        for value in ['a', 'k', 'mai', 'mainx', '', ('main',), ['main'], b'main'] + strange_values():
            self.assertIs(value in PROGRAM, False)

    def test_len(self):
        self.assertEqual(len(PROGRAM), 5)
        self.assertEqual(len(Program.read('base x def main { }')), 1)

    def test_equal(self):
        text = 'base a b kept k = a def main { tell k } def p { }'
        program = Program.read(text)
        self.assertTrue(program == Program.read(text.replace(' ', '\n')))
        self.assertFalse(program != Program.read(text))
        for other in ['base b a kept k = a def main { tell k } def p { }', 'base a b kept k = b def main { tell k } def p { }',
                      'base a b kept k = a def main { tell k }', 'base a b kept k = a def main { tell k } def q { }',
                      'base a b kept k = a def main { tell a } def p { }',
                      'base a b kept k = a handlers p def main { tell k } def p { }']:
            self.assertFalse(program == Program.read(other))
            self.assertTrue(program != Program.read(other))
        for value in strange_values() + [program.tree(), text]:
            if not isinstance(value, Agreeing):
                self.assertFalse(program == value)
                self.assertTrue(program != value)

    def test_statements(self):
        self.assertEqual([(place, statement[0]) for place, statement in PROGRAM.statements('main')],
                         [(0, 'input'), (1, 'if'), (2, 'call'), (3, 'set'), (4, 'while'), (5, 'pause'), (6, 'tell'),
                          (7, 'call'), (8, 'tell')])
        self.assertEqual(list(PROGRAM.statements(name='i')),
                         [(0, ('set', 'b', (1, ()), ())), (1, ('if', (('tell', (0, (('k', 1),))),), ())),
                          (2, ('tell', (0, (('k', 1),))))])
        for name in PROGRAM.procedures:
            found = list(PROGRAM.statements(name))
            self.assertEqual(found, list(enumerate(statements_of(PROGRAM.block(name)))))
            self.assertEqual(next(iter(PROGRAM.statements(name))), found[0])

    def test_callees(self):
        self.assertEqual([PROGRAM.callees(name) for name in PROGRAM.procedures],
                         [['h', 'i', 'p', 'q'], ['p'], [], ['i'], []])

    def test_reached(self):
        self.assertEqual([PROGRAM.reached(name) for name in PROGRAM.procedures],
                         [['h', 'i', 'p', 'q'], ['p'], [], ['i'], []])
        program = Program.read('base a handlers y def main { call z } def z { call x } def x { pause } '
                               'def y { call w } def w { }')
        self.assertEqual([program.callees(name) for name in program.procedures], [['z'], ['x'], ['y'], ['w'], []])
        self.assertEqual([program.reached(name) for name in program.procedures],
                         [['w', 'x', 'y', 'z'], ['w', 'x', 'y'], ['w', 'y'], ['w'], []])

    def test_handlers_are_called_by_pauses_alone(self):
        program = Program.read('base a handlers h def main { call p } def p { } def h { }')
        self.assertEqual((program.callees('main'), program.reached('main'), program.extent('main')), (['p'], ['p'], 1))

    def test_extent(self):
        self.assertEqual([PROGRAM.extent(name) for name in PROGRAM.procedures],
                         [9 + (3 + 3 + 3) + (5 + 3) + 3, 3 + 3 + 3, 3, 2 + 3, 3])

    def test_uses(self):
        self.assertEqual([PROGRAM.uses(name) for name in PROGRAM.procedures],
                         [[('main', 3, 'k'), ('main', 3, 'j'), ('main', 6, 'k'), ('main', 6, 'j')], [],
                          [('p', 2, 'k'), ('p', 2, 'j')], [('h', 0, 'j')], [('i', 2, 'k')]])

    def test_uses_follow_the_order_of_the_program(self):
        program = Program.read('base a kept z = a kept y = a def main { tell y + z while { a = y carry y } fresh z }')
        self.assertEqual(program.uses('main'), [('main', 0, 'z'), ('main', 0, 'y'), ('main', 2, 'y')])

    def test_no_such_procedure(self):
        for value in ['a', 'k', '', 'mainx', b'main', ('main',)] + strange_values():
            for name in ASKED:
                with self.subTest(name=name, value=value), self.assertRaises(UnknownProcedure) as caught:
                    getattr(PROGRAM, name)(value)
                self.assertIs(caught.exception.name, value)
            with self.assertRaises(UnknownProcedure) as caught:
                list(PROGRAM.statements(value))
            self.assertIs(caught.exception.name, value)

    def test_arguments_by_name(self):
        for name in ASKED:
            self.assertEqual(getattr(PROGRAM, name)(name='q'), getattr(PROGRAM, name)('q'))

    def test_lists_that_are_changed(self):
        for name in ['callees', 'reached', 'uses']:
            before = list(getattr(PROGRAM, name)('main'))
            returned = getattr(PROGRAM, name)('main')
            self.assertIs(type(returned), list)
            returned.append('x')
            returned.pop(0)
            self.assertEqual(getattr(PROGRAM, name)('main'), before)
        program = Program.read('base a def main { }')
        program.callees('main').append('x')
        self.assertEqual(program.reached('main'), [])


class Drawn(unittest.TestCase):
    """Programs that look drawn at random, and what a plain count says of them."""

    def program(self, draws):
        names = ['m', 'r', 'f', 'd', 'c']
        handlers = tuple(draws.shuffled(names[3:])[:draws.below(3)])
        procedures = [(name, self.block(draws, names[at + 1:], at < 3, 1)) for at, name in enumerate(names)]
        kept = (('k', (0, (('a', 1),))), ('j', (1, (('b', -1), ('k', 2)))))
        return Program((('a', 'b'), kept, handlers, tuple(procedures)))

    def block(self, draws, later, may_pause, depth):
        found = []
        for _ in range(draws.below(4)):
            kind = draws.below(6 if depth < 3 else 3)
            if kind == 0 and later:
                found.append(('call', draws.one_of(later)))
            elif kind == 1 and may_pause:
                found.append(('pause',))
            elif kind == 2:
                found.append(('tell', (0, draws.one_of([(), (('k', 1),), (('j', 2), ('k', -1)), (('a', 1),)]))))
            elif kind == 3:
                found.append(('while', self.block(draws, later, may_pause, depth + 1)))
            elif kind == 4:
                found.append(('if', self.block(draws, later, may_pause, depth + 1), ()))
            else:
                found.append(('set', 'a', (1, (('k', 3),)), ('k',)))
        return tuple(found)

    def extent(self, program, name):
        total = 0
        for statement in statements_of(program.block(name)):
            total += 1
            if statement[0] == 'call':
                total += self.extent(program, statement[1])
            if statement[0] == 'pause':
                total += sum(self.extent(program, handler) for handler in program.handlers)
        return total

    def test_drawn(self):
        draws = Draws(41)
        tried = 0
        while tried < 150:
            try:
                program = self.program(draws)
            except TooLarge:
                continue
            tried += 1
            called = {}
            for name in program.procedures:
                called[name] = set()
                for statement in statements_of(program.block(name)):
                    called[name] |= {statement[1]} if statement[0] == 'call' else set()
                    called[name] |= set(program.handlers) if statement[0] == 'pause' else set()
                self.assertEqual(program.callees(name), sorted(called[name]))
                self.assertEqual(program.extent(name), self.extent(program, name))
            for name in program.procedures:
                reached = set(called[name])
                for _ in program.procedures:
                    reached |= {far for near in reached for far in called[near]}
                self.assertEqual(program.reached(name), sorted(reached))
            self.assertEqual(Program.read(show(program.tree())), program)


class Replaced(unittest.TestCase):
    def test_a_block(self):
        program = Program.read('base a kept k = a def main { call p } def p { }')
        tree = program.tree()
        other = program.replaced('p', (('tell', (0, (('k', 1),))),))
        self.assertEqual(other, Program.read('base a kept k = a def main { call p } def p { tell k }'))
        self.assertEqual(program.tree(), tree)
        self.assertEqual(program, Program.read('base a kept k = a def main { call p } def p { }'))
        self.assertIs(type(other), Program)
        first = program.replaced(name='main', block=())
        self.assertEqual(first, Program.read('base a kept k = a def main { } def p { }'))
        self.assertEqual(program.replaced('p', ()), program)

    def test_a_new_procedure_stands_at_the_end(self):
        program = Program.read('base a def main { }')
        other = program.replaced('p', (('pause',),))
        self.assertEqual(other, Program.read('base a def main { } def p { pause }'))
        self.assertEqual(len(program), 1)
        self.assertEqual(other.replaced('main', (('call', 'p'),)).callees('main'), ['p'])

    def test_errors(self):
        program = Program.read('base a kept k = a def main { call p } def p { }')
        base, kept, handlers, procedures = program.tree()
        for block in strange_values() + [[], ['pause'], 'pause', ('pause',), (('pause',), ['pause']), (('stop',),)]:
            if block == () and not isinstance(block, Agreeing):
                continue
            with self.subTest(block=block), self.assertRaises(InvalidTree) as caught:
                program.replaced('p', block)
            self.assertEqual(caught.exception.value[3][0], procedures[0])
            self.assertIs(caught.exception.value[3][1][1], block)
            with self.assertRaises(InvalidTree) as caught:
                program.replaced('new', block)
            self.assertEqual(caught.exception.value[:3], (base, kept, handlers))
            self.assertEqual(caught.exception.value[3][:2], procedures)
            self.assertEqual(caught.exception.value[3][2][0], 'new')
            self.assertIs(caught.exception.value[3][2][1], block)
        for name in strange_values() + ['', 'P', 'def', 'a_b', ('p',), ['p']]:
            with self.subTest(name=name), self.assertRaises(InvalidTree) as caught:
                program.replaced(name, ())
            self.assertIs(caught.exception.value[3][2][0], name)
            self.assertEqual(len(caught.exception.value[3]), 3)

    def test_errors_of_programs(self):
        program = Program.read('base a kept k = a def main { call p } def p { }')
        for name, block, error, field, value in [
                ('p', (('call', 'p'),), 'InvalidCall', 'place', 0), ('p', (('fresh', 'a'),), 'UnknownName', 'name', 'a'),
                ('k', (), 'DuplicateName', 'name', 'k'), ('p', (('pause',),) * 60, 'TooLarge', 'word', 'statements'),
                ('p', (('input', 'a', ('k', 'k')),), 'InvalidCarry', 'place', 0),
                ('p', (('call', 'new'),), 'UnknownName', 'name', 'new')]:
            with self.subTest(name=name, block=block), self.assertRaises(ValueError) as caught:
                program.replaced(name, block)
            self.assertEqual(type(caught.exception).__name__, error)
            self.assertEqual(getattr(caught.exception, field), value)
        self.assertEqual(program.procedures, ('main', 'p'))


if __name__ == '__main__':
    unittest.main()
