import re
import unittest

import trees_drawn
from draws import Draws
from freshplaces.errors import FreshError, InvalidEvent, InvalidText
from freshplaces.journals import appended, event_text, journal_text, read_event, recovered
from freshplaces.printing import show
from freshplaces.texts import parse_procedure
from strange import Agreeing, strange_values

ROW = ' =+-*?{},0123456789abcdefghijklmnopqrstuvwxyz'
KEYWORDS = 'base kept handlers def if else while tell fresh carry call pause'.split()
NAME = r'(?!(?:%s)(?![a-z0-9]))[a-z][a-z0-9]*' % '|'.join(KEYWORDS)
NUMBER = '(?:0|[1-9][0-9]{0,59})'
PLAIN = re.compile('back|weigh {0} {1} {1}|(?:offer|withdraw) (?:fresh|carry) {0} {1} {0}'.format(NAME, NUMBER))
SIXTY, SIXTY_ONE = 10 ** 60 - 1, 10 ** 60
EVENTS = [
    (('back',), 'back'),
    (('weigh', 'main', 0, 9), 'weigh main 0 9'),
    (('weigh', 'weigh', SIXTY, SIXTY), 'weigh weigh ' + '9' * 60 + ' ' + '9' * 60),
    (('weigh', 'x1', 10 ** 59, 0), 'weigh x1 1' + '0' * 59 + ' 0'),
    (('offer', ('fresh', 'main', 0, 'k')), 'offer fresh main 0 k'),
    (('offer', ('carry', 'back', SIXTY, 'edit')), 'offer carry back ' + '9' * 60 + ' edit'),
    (('withdraw', ('carry', 'p', 12, 'k2')), 'withdraw carry p 12 k2'),
    (('edit', 'p', ()), 'edit p { }'),
    (('edit', 'edit', (('pause',),)), 'edit edit { pause }'),
    (('edit', 'p', (('if', (), ()), ('while', ()))), 'edit p { if { } while { } }'),
    (('edit', 'p', (('if', (('tell', (1, ())),), (('if', (), (('call', 'q'),)),)),)),
     'edit p { if { tell 1 } else { if { } else { call q } } }'),
    (('edit', 'p', (('set', 'x', (-3, (('a', -2), ('b', 1))), ('k', 'j')), ('input', 'y', ('k',)), ('fresh', 'j'))),
     'edit p { x = -2*a + b - 3 carry k, j y = ? carry k fresh j }'),
    (('edit', 'p', (('tell', (999999999999, (('a', -999999999999),))), ('tell', (0, ())))),
     'edit p { tell -999999999999*a + 999999999999 tell 0 }'),
]


def check_of(text):
    return sum(place * (ROW.index(character) + 1) for place, character in enumerate(text, 1)) % 999983


def line_by_hand(index, text):
    return '%d %d %d %s\n' % (index, len(text), check_of(text), text)


def edit_by_hand(name, block):
    """The text of an edit, from what show writes of a program with this procedure."""
    lines = show((('a',), (), (), ((name, block),))).splitlines()[1:]
    return 'edit ' + ' '.join(line.strip() for line in lines)[4:]


def is_text_of_event(text):
    if PLAIN.fullmatch(text):
        return True
    if not text.startswith('edit '):
        return False
    try:
        name, block = parse_procedure('def ' + text[5:])
    except FreshError:
        return False
    return edit_by_hand(name, block) == text


def drawn_event(draws):
    names = ['main', 'p', 'k', 'x1', 'weigh', 'back']
    numbers = [0, 1, 7, 10, 305, SIXTY]
    word = draws.one_of(['back', 'weigh', 'offer', 'withdraw', 'edit', 'edit'])
    if word == 'back':
        return (word,)
    if word == 'weigh':
        return (word, draws.one_of(names), draws.one_of(numbers), draws.one_of(numbers))
    if word == 'edit':
        return (word, draws.one_of(names), trees_drawn.block(draws, 3))
    return (word, (draws.one_of(['fresh', 'carry']), draws.one_of(names), draws.one_of(numbers), draws.one_of(names)))


class Examples(unittest.TestCase):
    def test_of_the_document(self):
        text = journal_text([('back',), ('weigh', 'main', 0, 9)])
        self.assertEqual((text[:13], recovered(text), recovered(text[:-1])),
                         ('0 4 247 back\n', [('back',), ('weigh', 'main', 0, 9)], [('back',)]))

    def test_of_ledgers(self):
        self.assertEqual((journal_text([('back',)]), recovered('0 4 247 back\n1 4 247 back')), ('0 4 247 back\n', [('back',)]))


class Texts(unittest.TestCase):
    def test_each_kind(self):
        for event, text in EVENTS:
            self.assertEqual((event_text(event), read_event(text)), (text, event))
            self.assertTrue(is_text_of_event(text))
        self.assertEqual((event_text(event=('back',)), read_event(text='back')), ('back', ('back',)))

    def test_drawn(self):
        draws = Draws(231)
        for _ in range(300):
            event = drawn_event(draws)
            text = event_text(event)
            self.assertEqual(read_event(text), event)
            if event[0] == 'edit':
                self.assertEqual(text, edit_by_hand(*event[1:]))
            else:
                words = [str(part) for part in event[:1] + (event[1] if type(event[1:2]) is tuple and len(event) == 2 else event[1:])]
                self.assertEqual(text, ' '.join(words))

    def test_what_is_read_is_strict(self):
        """Kinds of values too are those of the event."""
        event = read_event('weigh main 1 0')
        self.assertEqual([type(part) for part in event], [str, str, int, int])
        event = read_event('offer carry main 1 k')
        self.assertEqual((type(event[1]), [type(part) for part in event[1]]), (tuple, [str, str, int, str]))

    def test_no_texts_of_events(self):
        for text in ['', ' ', 'back ', ' back', 'Back', 'back\n', '\nback', 'back back', 'bac', 'backs', 'weigh', 'weigh main 0', 'weigh main 0 1 2',
                     'weigh  main 0 1', 'weigh main 0 1 ', 'weigh main 00 1', 'weigh main 0 01', 'weigh main -1 1', 'weigh main 0 -0',
                     'weigh main 0 +1', 'weigh Main 0 1', 'weigh if 0 1', 'weigh 1 0 1', 'weigh main 0 ' + '1' * 61, 'weigh main x 1',
                     'weigh main ' + '1' * 61 + ' 1', 'weigh main 0 1_0', 'weigh main 0 \u0661', 'weigh m\u00e4in 0 1', 'weigh main\t0 1',
                     'offer', 'offer fresh main 0', 'offer fresh main 0 k k', 'offer call main 0 k', 'offer Fresh main 0 k', 'offer fresh main 01 k',
                     'offer fresh main k 0', 'offer fresh tell 0 k', 'offer fresh main 0 kept', 'withdraw', 'withdraw carry main 0 ',
                     'withdrawn carry main 0 k', 'take carry main 0 k', 'edit', 'edit ', 'edit p', 'edit p {', 'edit p {}', 'edit p { } ',
                     'edit  p { }', 'edit p  { }', 'editp { }', 'edit def p { }', 'def p { }', 'edit p { x = 1 + x }', 'edit p { x = 0 + x }',
                     'edit p { x = 1*x }', 'edit p { x = 2 * x }', 'edit p { x = - x }', 'edit p { x = x + x }', 'edit p { x = 0*y }',
                     'edit p { x = y + x }', 'edit p { x=? }', 'edit p { x = ? carry k,j }', 'edit p { x = ? carry k , j }',
                     'edit p { if { } else { } }', 'edit p { tell\n1 }', 'edit p { tell 01 }', 'edit p { tell 1000000000000 }',
                     'edit p { tell 999999999999 + 1 }', 'edit p { } def q { }', 'edit p { ' + 'while { ' * 30 + '} ' * 30 + '}', 'edit if { }',
                     'edit\np { }', 'edit p\n{ }']:
            with self.subTest(text=text), self.assertRaises(InvalidText) as caught:
                read_event(text)
            self.assertIs(caught.exception.value, text)
        self.assertEqual(read_event('edit p { ' + 'while { ' * 29 + '} ' * 29 + '}')[1], 'p')

    def test_very_long_numbers(self):
        for text in ['weigh main 0 ' + '1' * 5000, 'offer fresh main ' + '9' * 9000 + ' k', 'edit p { tell ' + '7' * 6000 + ' }']:
            with self.assertRaises(InvalidText):
                read_event(text)
            self.assertEqual(recovered(line_by_hand(0, text)), [])

    def test_one_character_put_in_left_out_or_replaced(self):
        seen = [0, 0]
        for event, text in EVENTS:
            found = set()
            for at in range(len(text) + 1):
                found.add(text[:at] + text[at + 1:])
                for character in ROW + 'X\n(':
                    found.add(text[:at] + character + text[at:])
                    found.add(text[:at] + character + text[at + 1:])
            for other in sorted(found - {text})[::7]:
                known = is_text_of_event(other)
                seen[known] += 1
                if known:
                    self.assertEqual(event_text(read_event(other)), other)
                    self.assertNotEqual(read_event(other), event)
                else:
                    with self.subTest(text=other), self.assertRaises(InvalidText):
                        read_event(other)
        self.assertGreater(min(seen), 500)

    def test_values_that_are_no_texts(self):
        for value in strange_values() + [('back',), ['back'], b'back']:
            for call in (read_event, recovered, lambda value: appended(value, ('back',)), lambda value: appended(value, 'x')):
                with self.subTest(value=value), self.assertRaises(InvalidText) as caught:
                    call(value)
                self.assertIs(caught.exception.value, value)


class NoTexts(unittest.TestCase):
    action = ('fresh', 'main', 0, 'k')
    events = [*strange_values(), 'back', ('back', 1), ['back'], (), ('weigh', 'main', 0), ('weigh', 'main', 0, -1), ('weigh', 'main', -1, 0),
              ('weigh', 'main', True, 0), ('weigh', 'main', 0, False), ('weigh', 'main', 0, SIXTY_ONE), ('weigh', 'main', SIXTY_ONE, 0),
              ('weigh', 'Main', 0, 0), ('weigh', 'tell', 0, 0), ('weigh', '', 0, 0), ('weigh', None, 0, 0), ('weigh', 'main', '0', 0),
              ('weigh', 'main', 0.0, 0), ('weigh', Agreeing(), 0, 0), ('weigh', 'main', Agreeing(), 0), ('weigh', 'a b', 0, 0),
              ('offer', 'x'), ('offer', list(action)), ('offer',) + action, ('offer', action[:3]), ('offer', action + (1,)),
              ('offer', ('Fresh',) + action[1:]), ('offer', ('call', 'main', 0, 'k')), ('offer', ('fresh', 'main', False, 'k')),
              ('offer', ('fresh', 'main', SIXTY_ONE, 'k')), ('offer', ('fresh', 'main', -1, 'k')), ('offer', ('fresh', 'main', 0, 'kept')),
              ('offer', ('fresh', 'main', 0, None)), ('offer', (Agreeing(), 'main', 0, 'k')), ('withdraw', ('fresh', 1, 0, 'k')),
              ('withdraw', (['fresh'], 'main', 0, 'k')), ('withdraw', None), ('edit', 'p'), ('edit', 'p', []), ('edit', 'p', None),
              ('edit', 'P', ()), ('edit', 'if', ()), ('edit', 'p', (('x',),)), ('edit', 'p', (('tell', (1,)),)), ('edit', Agreeing(), ()),
              ('edit', 'p', Agreeing()), ('edit', 'p', (('tell', (True, ())),)), ('edit', 'p', (('tell', (0, (('a', True),))),)),
              ('edit', 'p', (('tell', (0, (('b', 1), ('a', 1)))),)), ('edit', 'p', (('tell', (0, (('a', 0),))),)),
              ('edit', 'p', (('fresh', 'x'), ('call', 'Q'))), ('take', action)]

    def refuse(self, event):
        for call in [lambda: event_text(event), lambda: journal_text([('back',), event, ('no',)]), lambda: appended('', event),
                     lambda: appended('x\n', event=event)]:
            with self.subTest(event=event), self.assertRaises(InvalidEvent) as caught:
                call()
            self.assertIs(caught.exception.value, event)

    def test_what_is_no_event_or_has_no_such_parts(self):
        for event in self.events:
            self.refuse(event)

    def test_numbers_of_thirteen_digits(self):
        """show writes them, but no program with them is read."""
        for block in [(('tell', (10 ** 12, ())),), (('set', 'a', (0, (('b', -10 ** 12),)), ()),),
                      (('while', (('if', (), (('tell', (-10 ** 30, ())),)),)),)]:
            self.refuse(('edit', 'p', block))

    def test_nesting(self):
        block = ()
        for depth in range(1, 34):
            if depth > 30:
                self.refuse(('edit', 'p', block))
            else:
                self.assertEqual(read_event(event_text(('edit', 'p', block))), ('edit', 'p', block))
            block = (('while', block),)

    def test_the_first_one(self):
        for events, at in [([('x',), ('y',)], 0), ([('back',), ('y',), ('x',)], 1), ([('back',)] * 3 + [None, ('y',)], 3)]:
            with self.assertRaises(InvalidEvent) as caught:
                journal_text(events)
            self.assertIs(caught.exception.value, events[at])


class Journals(unittest.TestCase):
    def test_lines(self):
        self.assertEqual((journal_text([]), recovered('')), ('', []))
        events = [event for event, _ in EVENTS]
        text = ''.join(line_by_hand(index, text) for index, (_, text) in enumerate(EVENTS))
        self.assertEqual((journal_text(events), recovered(text)), (text, events))
        self.assertEqual((journal_text(events=events), recovered(text=text)), (text, events))

    def test_checks(self):
        self.assertEqual((check_of('back'), check_of(' '), check_of('z'), check_of('=+')), (247, 1, 45, 8))
        event = ('edit', 'p', (('tell', (999999999999, ())),) * 40)
        self.assertGreater(sum(place * (ROW.index(character) + 1) for place, character in enumerate(event_text(event), 1)), 2 * 999983)
        self.assertEqual(journal_text([event]), line_by_hand(0, event_text(event)))

    def test_ten_lines_and_more(self):
        events = [('weigh', 'main', 0, number) for number in range(25)]
        text = journal_text(events)
        self.assertEqual([line.split()[0] for line in text.splitlines()], [str(index) for index in range(25)])
        self.assertEqual(recovered(text), events)

    def test_cut_off_anywhere(self):
        events = [event for event, _ in EVENTS]
        text = journal_text(events)
        for many in range(len(text) + 1):
            self.assertEqual(recovered(text[:many]), events[:text[:many].count('\n')])

    def test_each_character_replaced(self):
        draws = Draws(232)
        events = [event for event, _ in EVENTS[:2] + EVENTS[5:10]]
        text = journal_text(events)
        for at in range(len(text)):
            wanted = events[:text[:at].count('\n')]
            for character in ROW + '\nX~':
                if character != text[at]:
                    self.assertEqual(recovered(text[:at] + character + text[at + 1:]), wanted, (at, character))
        for _ in range(100):
            events = [drawn_event(draws) for _ in range(draws.between(1, 8))]
            text = journal_text(events)
            at = draws.below(len(text))
            character = draws.one_of([one for one in ROW + '\n' if one != text[at]])
            self.assertEqual(recovered(text[:at] + character + text[at + 1:]), events[:text[:at].count('\n')])

    def test_every_sign_with_every_other_one(self):
        """Signs that are beside each other in the row, and far away, at places with small and great positions."""
        event = ('edit', 'p', (('set', 'a', (-37, (('b', 2), ('c', -19))), ('k', 'j')), ('input', 'z', ())) * 12)
        text = journal_text([('back',), event, ('back',)])
        for at in range(13, text.index('\n', 13), 5):
            for character in ROW:
                if character != text[at]:
                    self.assertEqual(recovered(text[:at] + character + text[at + 1:]), [('back',)])

    def test_lines_twice_left_out_exchanged_or_with_more_behind(self):
        events = [event for event, _ in EVENTS[:6]]
        lines = journal_text(events).splitlines(True)
        for at in range(len(lines)):
            self.assertEqual(recovered(''.join(lines[:at + 1] + lines[at:])), events[:at + 1])
            self.assertEqual(recovered(''.join(lines[:at] + lines[at + 1:])), events[:at])
            for more in ['\n', ' \n', 'x', '%d' % (at + 1), '0 4 247 back\n', '%d 4 247 back' % (at + 1), '%d 4 247 back \n' % (at + 1)]:
                self.assertEqual(recovered(''.join(lines[:at + 1]) + more), events[:at + 1])
            self.assertEqual(recovered(''.join(lines[:at + 1]) + '%d 4 247 back\nx' % (at + 1)), events[:at + 1] + [('back',)])
        self.assertEqual(recovered(''.join(lines[1:] + lines[:1])), [])
        self.assertEqual(recovered('\n' + ''.join(lines)), [])

    def test_heads_that_are_written_otherwise(self):
        for text in ['0 4 247 back ', '00 4 247 back', '0 04 247 back', '0 4 0247 back', '+0 4 247 back', '0  4 247 back', '0 4 247  back',
                     ' 0 4 247 back', '0 4 247', '0 4 247 ', '0 4', '', '0', 'back', '0 4 1000230 back', '1 4 247 back', '0 5 247 back',
                     '0 4 248 back', '-0 4 247 back', '0 4 247 kcab', '0 4.0 247 back', '0\t4 247 back']:
            self.assertEqual(recovered(text + '\n'), [], text)
        self.assertEqual(recovered('0 4 247 back\n'), [('back',)])

    def test_texts_that_are_no_journals(self):
        for text in ['x', 'back', 'hello\nworld\n', '\n\n', '0 3 1 abc\n', line_by_hand(0, 'weigh main 00 1'), line_by_hand(0, 'edit p {}'),
                     line_by_hand(0, ''), line_by_hand(0, 'edit p { tell 1000000000000 }'), '0 5 1 BACK!\n', 'a b c d\n']:
            self.assertEqual(recovered(text), [])


class Appended(unittest.TestCase):
    def test_to_journals(self):
        text = ''
        for many, (event, _) in enumerate(EVENTS):
            text = appended(text, event)
            self.assertEqual(text, journal_text([other for other, _ in EVENTS[:many + 1]]))
        self.assertEqual(appended(event=('back',), text=''), '0 4 247 back\n')

    def test_to_any_text(self):
        for text in ['x', 'x\n', '\n', '\n\n\n', '0 4 247 back', '0 4 247 back\n1 4', ' ', 'a\nb\nc', 'X~(\n']:
            self.assertEqual(appended(text, ('back',)), text + '%d 4 247 back\n' % text.count('\n'))
        self.assertEqual(recovered(appended('0 4 247 back\n', ('weigh', 'p', 1, 2))), [('back',), ('weigh', 'p', 1, 2)])

    def test_texts_come_before_events(self):
        for event in (('back',), 'x', None):
            with self.assertRaises(InvalidText):
                appended(None, event)


class Kept(unittest.TestCase):
    def test_lists_are_new_and_not_changed(self):
        events = [('back',), ('weigh', 'p', 1, 2)]
        text = journal_text(events)
        self.assertEqual(events, [('back',), ('weigh', 'p', 1, 2)])
        found = recovered(text)
        found.clear()
        self.assertEqual(recovered(text), events)


if __name__ == '__main__':
    unittest.main()
