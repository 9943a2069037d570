import unittest

from draws import Draws
from freshplaces.actions import updated
from freshplaces.console import Console
from freshplaces.errors import (DuplicateName, FreshError, InvalidAction, InvalidCall, InvalidCommand, InvalidEntry, InvalidEvent,
                                InvalidQuestion, InvalidSyntax, InvalidText, InvalidWeights, LimitExceeded, TooLarge, TooMany,
                                UnknownName, UnknownProcedure)
from freshplaces.machine import Machine
from freshplaces.printing import show
from freshplaces.programs import Program
from freshplaces.questions import ask, rows_of
from freshplaces.sessions import Session
from sessionbyhand import DrawnEvents, SessionByHand
from strange import strange_values

TEXT = 'base a kept k = a def main { a = a + 1 tell k }'
READING = ('updates', 'show', 'written', 'uses')


def console_with(*commands):
    console = Console()
    for command in commands:
        console.execute(command)
    return console


def all_told(console):
    return [console.execute(command) for command in READING]


class Examples(unittest.TestCase):
    def test_of_the_document(self):
        console = Console()
        words = ['program base a kept k = a def main { a = a + 1 tell k }', 'offer carry main 0 k', 'run 3 -', 'back', 'uses']
        self.assertEqual([console.execute(word) for word in words], ['ok', 'other 2', '4 4\n4\n-', 'none', 'main 1 k stale'])


class First(unittest.TestCase):
    def test_each_command(self):
        for command, wanted in [('updates', '-'), ('show', 'base x\ndef main {\n}'), ('written', 'base x\ndef main {\n}'), ('uses', '-'),
                                ('ask some any', 'no'), ('ask no any', 'yes'), ('ask count any', '0'), ('ask every any then any', 'yes'),
                                ('run 7 -', '7\n-\n-'), ('run -7 1,2', '-7\n-\n-'), ('define p { x = ? }', 'same 0'),
                                ('define main { x = 2 }', 'same 0'), ('weigh main 0 3', None), ('offer fresh main 0 k', None), ('back', None)]:
            console = Console()
            if wanted is None:
                with self.assertRaises(FreshError):
                    console.execute(command)
                self.assertEqual(all_told(console), ['-', 'base x\ndef main {\n}', 'base x\ndef main {\n}', '-'])
            else:
                self.assertEqual(console.execute(command), wanted)

    def test_consoles_do_not_share(self):
        one, other = Console(), Console()
        one.execute('program ' + TEXT)
        self.assertEqual(other.execute('show'), 'base x\ndef main {\n}')


class Commands(unittest.TestCase):
    def test_program(self):
        console = console_with('program ' + TEXT, 'offer carry main 0 k', 'weigh main 0 7')
        self.assertEqual(console.execute('program base b def start { }'), 'ok')
        self.assertEqual(all_told(console), ['-', 'base b\ndef start {\n}', 'base b\ndef start {\n}', '-'])
        with self.assertRaises(InvalidEvent):
            console.execute('back')
        self.assertEqual(console.execute('program ' + TEXT), 'ok')
        self.assertEqual(console.execute('offer carry main 0 k'), 'other 2')

    def test_define(self):
        console = console_with('program ' + TEXT, 'offer carry main 0 k')
        self.assertEqual(console.execute('define main { tell k }'), 'other 0')
        self.assertEqual(console.execute('show'), 'base a\nkept k = a\ndef main {\n  tell k\n}')
        self.assertEqual(console.execute('define p { while { a = ? } }'), 'same 0')
        self.assertEqual(console.execute('define main { call p tell k }'), 'none')
        self.assertEqual(console.execute('offer carry p 1 k'), 'other 3')
        self.assertEqual(console.execute('show'), 'base a\nkept k = a\ndef main {\n  call p\n  tell k\n}\ndef p {\n  while {\n    a = ?\n  }\n}')
        self.assertEqual([console.execute('back') for _ in range(4)], ['none', 'other 0', 'same 0', 'other 2'])

    def test_events_and_costs(self):
        console = console_with('program ' + TEXT)
        for command, wanted in [
                ('weigh main 0 5', 'same'), ('offer fresh main 0 k', 'same'), ('offer carry main 0 k', 'other 10'), ('offer fresh main 1 k', 'other 2'),
                ('weigh main 1 0', 'same 0'), ('weigh main 1 999999999999', 'other 10'), ('withdraw fresh main 0 k', 'same 10'),
                ('withdraw carry main 0 k', 'other 1999999999998'), ('withdraw fresh main 1 k', 'none'), ('back', 'other 1999999999998'),
                ('back', 'other 10'), ('back', 'same 10'), ('back', 'other 0'), ('back', 'same 2'), ('back', 'other 10'), ('back', 'none'),
                ('back', 'same'), ('back', 'same')]:
            self.assertEqual(console.execute(command), wanted, command)

    def test_reading(self):
        console = console_with('program base a b kept k = a kept j = a + b def main { a = 1 b = ? tell k + j } def far { tell j }',
                               'offer carry main 0 k', 'offer fresh main 2 j')
        self.assertEqual(console.execute('updates'), 'carry main 0 k\nfresh main 2 j')
        self.assertEqual(console.execute('written'), 'base a b\nkept k = a\nkept j = a + b\ndef main {\n  a = 1 carry k\n  b = ?\n  fresh j\n'
                                                     '  tell j + k\n}\ndef far {\n  tell j\n}')
        self.assertEqual(console.execute('uses'), 'main 2 k right\nmain 2 j right')
        self.assertEqual(console.execute('ask count verdict right'), '2')
        self.assertEqual(console.execute('run 5,6 -4'), '1 -4 1 -3\n-2\n-')
        self.assertEqual(console.execute('run 5,6,0,0 -4,9,9'), '1 -4 -4 -3\n-7\nmain:2:k')
        console.execute('withdraw fresh main 2 j')
        self.assertEqual([console.execute(command) for command in READING[:1] + READING[2:]], ['no', 'no', 'main 2 k stale\nmain 2 j stale'])
        self.assertEqual([console.execute('ask ' + text) for text in ['some verdict right', 'no verdict right', 'every kept j then depends b']],
                         ['no', 'yes', 'yes'])
        self.assertEqual(console.execute('run 5,6 -4'), '1 -4 5 11\n16\nmain:2:k main:2:j')
        self.assertEqual(console.execute('run 1,-4 -4'), '1 -4 1 -3\n-2\n-')

    def test_runs(self):
        console = console_with('program base a handlers h def main { while { a = ? tell a } pause } def h { a = a + 10 }')
        for command, wanted in [('run 0 -', '0\n-\n-'), ('run 4 1,5,1,-6,0,1', '4\n5 -6\n-'), ('run 3 0,1', '13\n-\n-'), ('run 3 0,3', '13\n-\n-'),
                                ('run 3 -2,-1', '13\n-\n-'), ('run 3 -2,-2', '3\n-\n-'), ('run -999999999999 1,999999999999,0', '999999999999\n999999999999\n-')]:
            self.assertEqual(console.execute(command), wanted)

    def test_words_of_other_commands(self):
        """Names of procedures and texts may be words of commands."""
        console = console_with('program base program kept ask = program def back { program = ? tell ask } def run { }')
        self.assertEqual(console.execute('offer carry back 0 ask'), 'other 3')
        self.assertEqual(console.execute('define run { program = 1 }'), 'same 3')
        self.assertEqual(console.execute('ask some kept ask and depends program'), 'yes')
        self.assertEqual(console.execute('uses'), 'back 1 ask right')

    def test_behind_errors(self):
        console = console_with('program ' + TEXT, 'offer carry main 0 k', 'weigh main 1 4')
        before = all_told(console)
        for command in ['', 'x', 'program', 'program x', 'define main {', 'define main { call main }', 'offer carry main 0 k', 'offer fresh main 7 k',
                        'withdraw fresh main 0 k', 'weigh p 0 1', 'weigh main 01 1', 'ask', 'ask all', 'ask some kept x', 'run 1,2,3 -', 'run x -', 'back back',
                        None, 'show x', ' show', 'program base a def main { a = 1000000000000 }', 'program base a a def main { }', 'define a { }']:
            with self.subTest(command=command), self.assertRaises((FreshError, KeyError)):
                console.execute(command)
            self.assertEqual(all_told(console), before)
        self.assertEqual([console.execute('back') for _ in range(2)], ['same 2', 'none'])
        with self.assertRaises(InvalidEvent):
            console.execute('back')

    def test_by_name(self):
        self.assertEqual(Console().execute(command='updates'), '-')

    def test_drawn(self):
        draws = Draws(281)
        for at in range(15):
            drawn = DrawnEvents(draws, base=2, kept=1 + at % 2, depth=2)
            program = drawn.program()
            console, model = Console(), SessionByHand(program)
            self.assertEqual(console.execute('program ' + ' '.join(show(program.tree()).split())), 'ok')
            for _ in range(12):
                event = drawn.event(model)
                word = model.perform(event)
                wanted = word if model.price is None else '%s %d' % (word, model.price[0])
                self.assertEqual(console.execute(self.command_of(event)), wanted)
                self.check_reading(console, model, draws)

    def command_of(self, event):
        if event[0] == 'edit':
            text = show((('a',), (), (), (event[1:],)))
            return 'define ' + ' '.join(text.split()[3:])
        parts = event if event[0] in ('weigh', 'back') else event[:1] + event[1]
        return ' '.join(str(part) for part in parts)

    def check_reading(self, console, model, draws):
        program, updates = model.program, model.updates() or ()
        lines = '\n'.join(' '.join(map(str, action)) for action in updates) or '-'
        rows = '\n'.join(' '.join(map(str, row[:4])) for row in rows_of(program, updates)) or '-'
        written = show(updated(program, updates).tree())[:-1]
        none = model.updates() is None
        self.assertEqual(all_told(console), ['no' if none else lines, show(program.tree())[:-1], 'no' if none else written, rows])
        self.assertEqual(console.execute('ask count verdict stale'), str(ask(program, 'count verdict stale', updates)))
        entry, choices = tuple(draws.between(-3, 3) for _ in range(2)), [draws.between(-1, 4) for _ in range(4)]
        machine = Machine(program, updates)
        values, told, _ = machine(entry, choices)
        wanted = [list(map(str, values)), list(map(str, told)), [':'.join(map(str, use)) for use in machine.stale(entry, choices)]]
        command = 'run %s %s' % (','.join(map(str, entry)), ','.join(map(str, choices)))
        self.assertEqual(console.execute(command), '\n'.join(' '.join(parts) or '-' for parts in wanted))


class Errors(unittest.TestCase):
    def check(self, command, error, field, value, console=None):
        console = console or console_with('program ' + TEXT)
        before = all_told(console)
        with self.subTest(command=command), self.assertRaises(error) as caught:
            console.execute(command)
        self.assertIs(type(caught.exception), error)
        self.assertEqual(getattr(caught.exception, field), value)
        self.assertEqual(type(getattr(caught.exception, field)), type(value))
        self.assertEqual(all_told(console), before)

    def test_no_commands(self):
        for command in [*strange_values(), ['show'], b'show', '', ' ', '  ', ' show', 'show ', 'offer  carry main 0 k', 'show\n', '\n', 'sh\now',
                        'ask some\nany', 'program  ' + TEXT, 'x ', ' x', 'x\n', 'program ', 'define ', 'ask ', 'run  -', 'run 1 ']:
            self.check(command, InvalidCommand, 'word', None)

    def test_words_that_there_are_not(self):
        for command in ['x', 'Show', 'show\t', 'edit main { }', 'shows', 'help me', '1', '-', 'ok', 'programs x', 'fresh main 0 k', '{', 'def p { }']:
            self.check(command, InvalidCommand, 'word', command.split(' ')[0])

    def test_numbers_of_words(self):
        for word, many in [('offer', 5), ('withdraw', 5), ('weigh', 4), ('back', 1), ('updates', 1), ('show', 1), ('written', 1), ('uses', 1), ('run', 3)]:
            for count in range(1, 8):
                if count != many:
                    self.check(' '.join([word] + ['x'] * (count - 1)), InvalidCommand, 'word', word)
        for word in ('program', 'define', 'ask'):
            self.check(word, InvalidCommand, 'word', word)

    def test_places_and_numbers(self):
        for word in ['01', '00', '-0', '-1', '+1', 'x', '1x', '0x1', '1.0', '1e3', '1,2', '-', '--1', '1_0', '\u0661', '1234567890123', '9' * 60, '{']:
            self.check('offer carry main %s k' % word, InvalidText, 'value', word)
            self.check('withdraw x y %s z' % word, InvalidText, 'value', word)
            self.check('weigh main %s 1' % word, InvalidText, 'value', word)
            self.check('weigh main 0 %s' % word, InvalidText, 'value', word)
            self.check('weigh none 77 %s' % word, InvalidText, 'value', word)
            self.check('weigh none %s 00' % word, InvalidText, 'value', word)
        self.check('weigh main 00 x', InvalidText, 'value', '00')
        self.check('weigh main 0 1234567890123', InvalidText, 'value', '1234567890123')
        self.assertEqual(console_with('program ' + TEXT).execute('weigh main 0 123456789012'), 'same')

    def test_entries_and_choices(self):
        for word in ['01', '00', '-0', '-01', '+1', 'x', '1,', ',1', ',', '1,,2', '1,-', '-,1', '--', '--1', '1,-0', '0,00', '1;2', '1.0', '1_0', '\u0661',
                     '1234567890123', '-1234567890123', '1,1234567890123', '1-', '1-2', '-1-']:
            self.check('run %s -' % word, InvalidText, 'value', word)
            self.check('run 1 %s' % word, InvalidText, 'value', word)
            self.check('run %s 1,x' % word, InvalidText, 'value', word)
            self.check('run 1,2,3 %s' % word, InvalidText, 'value', word)
        console = console_with('program ' + TEXT)
        self.assertEqual(console.execute('run 0 0'), '1 0\n0\nmain:1:k')
        for entry in (-123456789012, -1, 999999999999):
            self.assertEqual(console.execute('run %d -' % entry), '%d %d\n%d\nmain:1:k' % (entry + 1, entry, entry))

    def test_errors_of_the_functions(self):
        for command, error, field, value in [
                ('program x', InvalidSyntax, 'position', 0), ('program base a def main { a = }', InvalidSyntax, 'position', 22),
                ('program base a def main {', InvalidSyntax, 'position', 17), ('program base a a def main { }', DuplicateName, 'name', 'a'),
                ('program base a def main { tell b }', UnknownName, 'name', 'b'),
                ('program base a def main { tell 1000000000000 }', TooLarge, 'word', 'numbers'),
                ('program base a b c d e def main { }', TooLarge, 'word', 'base'),
                ('define main', InvalidSyntax, 'position', 8), ('define main {', InvalidSyntax, 'position', 10), ('define {', InvalidSyntax, 'position', 4),
                ('define main { } }', InvalidSyntax, 'position', 13), ('define def main { }', InvalidSyntax, 'position', 4),
                ('define main { tell x y }', InvalidSyntax, 'position', 20), ('define Main { }', InvalidSyntax, 'position', 4),
                ('define main { tell 1000000000000 }', TooLarge, 'word', 'numbers'), ('define main { tell x }', UnknownName, 'name', 'x'),
                ('define main { call main }', InvalidCall, 'place', 0), ('define k { }', DuplicateName, 'name', 'k'),
                ('offer x y 0 z', InvalidAction, 'value', ('x', 'y', 0, 'z')), ('offer carry main 1 k', InvalidAction, 'value', ('carry', 'main', 1, 'k')),
                ('withdraw carry main 0 k', InvalidAction, 'value', ('carry', 'main', 0, 'k')),
                ('offer fresh main 999999999999 k', InvalidAction, 'value', ('fresh', 'main', 999999999999, 'k')),
                ('weigh main 2 0', InvalidWeights, 'value', ('weigh', 'main', 2, 0)), ('weigh p 0 5', InvalidWeights, 'value', ('weigh', 'p', 0, 5)),
                ('back', InvalidEvent, 'value', ('back',)), ('ask some', InvalidQuestion, 'position', 4), ('ask x', InvalidQuestion, 'position', 0),
                ('ask some kept x', UnknownName, 'name', 'x'), ('ask count procedure p', UnknownProcedure, 'name', 'p'),
                ('ask no place 1000000000000', TooLarge, 'word', 'numbers'), ('ask some any or', InvalidQuestion, 'position', 11),
                ('run - -', InvalidEntry, 'value', ()), ('run 1,2,3 5', InvalidEntry, 'value', (1, 2, 3))]:
            self.check(command, error, field, value)

    def test_too_many_and_too_long(self):
        console = console_with('program base x kept k = x def main { while { x = 1 x = 1 x = 1 x = 1 x = 1 x = 1 tell k } }',
                               *['offer carry main %d k' % place for place in range(1, 7)], *['offer fresh main %d k' % place for place in range(6)])
        self.check('offer fresh main 6 k', TooMany, 'word', 'candidates', console)
        self.check('run 0 ' + ','.join(['1'] * 600), LimitExceeded, 'word', 'steps', console)
        self.assertEqual(console.execute('withdraw fresh main 0 k')[:5], 'same ')
        self.assertEqual(console.execute('offer fresh main 6 k')[:5], 'same ')

    def test_updates_that_are_too_many_statements_to_be_written(self):
        console = console_with('program base x kept k = x def main { %s tell k }' % ' '.join(['x = x + 1'] * 59), 'offer fresh main 59 k')
        self.assertEqual(console.execute('updates'), 'fresh main 59 k')
        with self.assertRaises(TooLarge) as caught:
            console.execute('written')
        self.assertEqual(caught.exception.word, 'statements')
        self.assertEqual(console.execute('uses'), 'main 59 k right')

    def test_against_a_session(self):
        """What a session refuses, the console refuses, too, and is as before."""
        console, session = console_with('program ' + TEXT), Session(Program.read(TEXT))
        for command, event in [('offer carry main 0 k', ('offer', ('carry', 'main', 0, 'k'))), ('offer carry main 0 k', ('offer', ('carry', 'main', 0, 'k'))),
                               ('withdraw fresh main 0 k', ('withdraw', ('fresh', 'main', 0, 'k'))), ('back', ('back',)), ('back', ('back',))]:
            try:
                wanted = session.perform(event)
            except FreshError as error:
                with self.assertRaises(type(error)):
                    console.execute(command)
            else:
                self.assertEqual(console.execute(command).split()[0], wanted)


if __name__ == '__main__':
    unittest.main()
