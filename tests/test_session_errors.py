import unittest

from freshplaces.actions import candidates
from freshplaces.errors import (DuplicateName, InvalidAction, InvalidCall, InvalidCarry, InvalidEvent, InvalidText, InvalidTree,
                                InvalidWeights, TooLarge, TooMany, UnknownName)
from freshplaces.journals import journal_text
from freshplaces.programs import Program
from freshplaces.sessions import Session, unchanged
from sessionbyhand import told_by
from strange import Agreeing, strange_values

PROGRAM = Program.read('base a kept k = a kept j = a def main { a = 1 tell k a = ? carry k tell j tell a tell a }')
EVERY = tuple(candidates(PROGRAM))
SOME, MANY = EVERY[:3], EVERY[:13]
BAD_POOLS = [*[value for value in strange_values() if type(value) is not tuple], list(SOME), 'x']
BAD_STARTS = [*strange_values(), 'left', '', ('right',)]
NO_EVENTS = [*strange_values(), 'back', ('back', 1), ['back'], ('edit',), ('edit', 'p'), ('edit', 'p', (), ()), ('offer',),
             ('offer',) + SOME[0], ('withdraw', SOME[0], 1), ('weigh', 'main', 0), ('weigh', 'main', 0, 1, 1),
             ('weigh', 'main', 0, -1), ('weigh', 'main', 0, True), ('weigh', 'main', 0, None), ('weigh', 'main', 0, '1'),
             ('weigh', 'main', 0, 1.0), ('weigh', 'main', 0, Agreeing()), ('Back',), ('undo',), ('',), (b'back',), (Agreeing(),),
             (None,), (0,), (('back',),), ('weigh', 'none', 7, False), ('weigh', [], [], -5), [('back',)]]


class Errors(unittest.TestCase):
    def check(self, calls, error, field, value):
        for call in calls:
            with self.subTest(value=value), self.assertRaises(error) as caught:
                call()
            self.assertIs(type(caught.exception), error)
            if field:
                self.assertIs(getattr(caught.exception, field), value)
        return caught.exception


class Building(Errors):
    def calls(self, pool, **others):
        return [lambda: Session(PROGRAM, pool, **others), lambda: Session.replayed(PROGRAM, pool, ['x'], **others),
                lambda: Session.recovered(PROGRAM, pool, '', **others), lambda: Session(pool=pool, program=PROGRAM, **others)]

    def test_pools(self):
        for pool in BAD_POOLS:
            for start in ('right', 'left', None):
                self.check(self.calls(pool, start=start), InvalidAction, 'value', pool)
        for pool, at in [(SOME[::-1], 1), (SOME[:1] * 2, 1), (SOME + (None,), 3), (MANY + ('x',), 13), (('x', None), 0)]:
            self.check(self.calls(pool, start='left'), InvalidAction, 'value', pool[at])

    def test_starts(self):
        for start in BAD_STARTS:
            for pool in ((), SOME, MANY):
                self.check(self.calls(pool, start=start), UnknownName, 'name', start)

    def test_thirteen(self):
        self.assertEqual(len(MANY), 13)
        self.check(self.calls(MANY) + self.calls(EVERY, start='any'), TooMany, 'word', 'candidates')
        self.assertEqual(len(Session(PROGRAM, MANY[1:]).pool), 12)

    def test_keywords_alone(self):
        for call in [lambda: Session(PROGRAM, (), 'right'), lambda: Session.replayed(PROGRAM, (), [], 'right'),
                     lambda: Session.recovered(PROGRAM, (), '', 'right'), lambda: unchanged(PROGRAM, PROGRAM, 'right')]:
            with self.assertRaises(TypeError):
                call()

    def test_by_name(self):
        events = [('weigh', 'main', 0, 5)]
        session = Session.replayed(start='any', events=events, pool=SOME, program=PROGRAM)
        self.assertEqual(told_by(session), (PROGRAM, SOME, None, {('main', 0): 5}, None, events))
        again = Session.recovered(text=journal_text(events), start='any', program=PROGRAM, pool=SOME)
        self.assertEqual(told_by(again), told_by(session))
        self.assertEqual(session.perform(event=('back',)), 'same')
        self.assertEqual(session.trial(call=lambda: 3, events=[]), 3)


class Texts(Errors):
    def test_recovered(self):
        for text in strange_values():
            for pool, start in [((), 'right'), (None, 'right'), (MANY, 'left'), (MANY, 'right')]:
                self.check([lambda: Session.recovered(PROGRAM, pool, text, start=start)], InvalidText, 'value', text)


class Events(Errors):
    def setUp(self):
        self.session = Session(PROGRAM, SOME)
        self.session.perform(('weigh', 'main', 0, 3))
        self.before = told_by(self.session)

    def refuse(self, event, error, field, value):
        found = self.check([lambda: self.session.perform(event), lambda: self.session.trial([('weigh', 'main', 0, 4), event], None),
                            lambda: Session.replayed(PROGRAM, SOME, [('weigh', 'main', 0, 3), event])], error, field, value)
        self.assertEqual(told_by(self.session), self.before)
        return found

    def test_what_is_no_event(self):
        for event in NO_EVENTS:
            self.refuse(event, InvalidEvent, 'value', event)

    def test_edits(self):
        for name, block in [('main', [()]), ('main', None), ('p', (('x',),)), (None, ()), ('P', ()), (Agreeing(), ()), ([], ()),
                            ('main', Agreeing()), ('if', ()), ('main', (('pause', 1),)), ('main', [])]:
            error = self.refuse(('edit', name, block), InvalidTree, None, None)
            base, kept, handlers, procedures = error.value
            self.assertEqual((base, kept, handlers), PROGRAM.tree()[:3])
            self.assertIs(procedures[-1][1], block)
            self.assertEqual(len(procedures), 1 + (type(name) is not str or name != 'main'))
        for name, block, error, field, value in [
                ('a', (), DuplicateName, 'name', 'a'), ('main', (('fresh', 'x'),), UnknownName, 'name', 'x'),
                ('main', (('call', 'main'),), InvalidCall, 'place', 0), ('p', (('pause',), ('call', 'p')), InvalidCall, 'place', 1),
                ('main', (('input', 'a', ('k', 'k')),), InvalidCarry, 'place', 0),
                ('main', (('pause',),) * 61, TooLarge, 'word', 'statements')]:
            self.refuse(('edit', name, block), error, field, value)

    def test_six_procedures(self):
        for name in ('p', 'q', 'r', 's', 't'):
            self.session.perform(('edit', name, ()))
        self.before = told_by(self.session)
        self.check([lambda: self.session.perform(('edit', 'u', ()))], TooLarge, 'word', 'procedures')
        self.assertEqual(told_by(self.session), self.before)
        self.assertEqual(self.session.perform(('edit', 't', (('pause',),))), 'same')

    def test_actions(self):
        for action in [*strange_values(), 'x', list(SOME[0]), SOME[0][:3], ('carry', 'main', 2, 'k'), ('fresh', 'main', 6, 'k'),
                       ('fresh', 'main', False, 'k'), ('fresh', 'p', 0, 'k'), ('fresh', 'main', 0, 'a'), (SOME[0],)]:
            self.refuse(('offer', action), InvalidAction, 'value', action)
            self.refuse(('withdraw', action), InvalidAction, 'value', action)
        for action in SOME:
            self.refuse(('offer', action), InvalidAction, 'value', action)
        for action in EVERY[3:]:
            self.refuse(('withdraw', action), InvalidAction, 'value', action)

    def test_weights(self):
        for name, place in [('main', 6), ('main', -1), ('main', True), ('main', '0'), ('p', 0), (None, 0), ('main', None), ([], {}),
                            ('k', 0), ('main', 1.0), (Agreeing(), 0), ('main', Agreeing())]:
            event = ('weigh', name, place, 1)
            self.refuse(event, InvalidWeights, 'value', event)

    def test_nothing_to_take_back(self):
        event = ('back',)
        session = Session(PROGRAM, SOME)
        self.check([lambda: session.perform(event), lambda: Session.replayed(PROGRAM, SOME, [event])], InvalidEvent, 'value', event)
        self.session.perform(event)
        self.before = told_by(self.session)
        self.check([lambda: self.session.perform(event), lambda: self.session.trial([event], None)], InvalidEvent, 'value', event)
        self.assertEqual(told_by(self.session), self.before)

    def test_a_thirteenth_action(self):
        session = Session(PROGRAM, MANY[:12])
        before = told_by(session)
        self.check([lambda: session.perform(('offer', MANY[12])), lambda: session.trial([('offer', MANY[12])], None)],
                   TooMany, 'word', 'candidates')
        self.assertEqual(told_by(session), before)
        # What is no action, or is in the pool already, is refused as such.
        self.check([lambda: session.perform(('offer', MANY[0]))], InvalidAction, 'value', MANY[0])
        self.check([lambda: session.perform(('offer', 'x'))], InvalidAction, 'value', 'x')
        self.check([lambda: session.perform(('offer', MANY[12], 1))], InvalidEvent, None, None)
        self.assertEqual(told_by(session), before)
        session.perform(('withdraw', MANY[0]))
        session.perform(('offer', MANY[12]))
        self.assertEqual(session.pool, MANY[1:])
        self.check([lambda: session.perform(('offer', MANY[0]))], TooMany, 'word', 'candidates')
        self.assertEqual(session.journal(), [('withdraw', MANY[0]), ('offer', MANY[12])])


class Comparing(Errors):
    def test_other_variables(self):
        old = Program.read('base a b kept k = a def main { }')
        for text in ['base b a kept k = a def main { }', 'base a kept k = a def main { }', 'base a b def main { }',
                     'base a b kept k = b def main { }', 'base a b kept j = a def main { }', 'base a b kept k = a + 1 def main { }',
                     'base a b kept k = a kept j = a def main { }', 'base a b c kept k = a def main { }']:
            new = Program.read(text)
            for start in ('right', 'left', None):
                self.check([lambda: unchanged(old, new, start=start)], InvalidTree, 'value', new)
                self.check([lambda: unchanged(new, old, start=start)], InvalidTree, 'value', old)

    def test_no_programs(self):
        for new in [*strange_values(), PROGRAM.tree(), 'base a def main { }']:
            self.check([lambda: unchanged(PROGRAM, new), lambda: unchanged(PROGRAM, new, start='left')], InvalidTree, 'value', new)

    def test_starts(self):
        for start in BAD_STARTS:
            self.check([lambda: unchanged(PROGRAM, PROGRAM, start=start)], UnknownName, 'name', start)


if __name__ == '__main__':
    unittest.main()
