import unittest

from draws import Draws
from freshplaces.actions import candidates
from freshplaces.errors import FreshError
from freshplaces.journals import journal_text
from freshplaces.programs import Program
from freshplaces.sessions import Session, unchanged
from freshplaces.states import States
from freshplaces.texts import parse_procedure
from programs_drawn import drawn_program
from sessionbyhand import DrawnEvents, SessionByHand, told_by

TEXT = 'base x kept k = x def main { x = x + 1 tell k }'
CARRY, FRESH = ('carry', 'main', 0, 'k'), ('fresh', 'main', 1, 'k')


def session_of(text=TEXT, pool=(CARRY, FRESH), **others):
    return Session(Program.read(text), pool, **others)


def edit(text):
    return ('edit',) + parse_procedure(text)


class Examples(unittest.TestCase):
    def test_of_the_document(self):
        session = Session(Program.read(TEXT), (CARRY,))
        words = [session.perform(event) for event in [('weigh', 'main', 0, 9), ('offer', FRESH)]]
        self.assertEqual((words, session.updates, session.cost()), (['same', 'other'], (FRESH,), 2))

    def test_of_ledgers(self):
        session = Session(Program.read('base a kept k = a def main { a = 1 tell k }'))
        events = [('offer', CARRY), ('offer', FRESH), ('weigh', 'main', 0, 9), ('back',)]
        self.assertEqual([session.perform(event) for event in events], ['other', 'same', 'other', 'other'])


class Beginnings(unittest.TestCase):
    def test_without_a_pool(self):
        program = Program.read(TEXT)
        session = Session(program)
        self.assertEqual(told_by(session), (program, (), None, {}, None, []))
        session = Session(Program.read('base x def main { }'))
        self.assertEqual((session.pool, session.updates, session.cost()), ((), (), 0))

    def test_with_a_pool(self):
        session = session_of()
        self.assertEqual(told_by(session), (Program.read(TEXT), (CARRY, FRESH), (CARRY,), {}, 2, []))

    def test_starts(self):
        for start, updates in [('right', (CARRY,)), ('any', (FRESH,))]:
            session = session_of(start=start)
            self.assertEqual((session.updates, session.cost()), (updates, 2))
            self.assertEqual(session.perform(('withdraw', FRESH)), 'none' if start == 'any' else 'same')

    def test_the_start_stays(self):
        session = session_of(start='any')
        self.assertEqual(session.perform(edit('def main { x = 2 tell k }')), 'same')
        self.assertEqual((session.updates, session.perform(('weigh', 'main', 1, 50)), session.cost()), ((FRESH,), 'same', 100))
        again = Session.replayed(Program.read(TEXT), (CARRY, FRESH), session.journal(), start='any')
        self.assertEqual(told_by(again), told_by(session))
        again = Session.recovered(Program.read(TEXT), (CARRY, FRESH), journal_text(session.journal()), start='any')
        self.assertEqual(told_by(again), told_by(session))


class Events(unittest.TestCase):
    def test_edit(self):
        session = session_of()
        self.assertEqual(session.perform(edit('def main { tell k x = 0 }')), 'other')
        self.assertEqual((session.pool, session.updates, session.cost()), ((FRESH,), (), 0))
        self.assertEqual(session.perform(edit('def main { x = 0 x = 1 tell k }')), 'none')
        self.assertEqual((session.pool, session.updates, session.cost()), ((FRESH,), None, None))
        self.assertEqual(session.perform(edit('def main { x = 0 tell k + 1 tell x }')), 'other')
        self.assertEqual((session.pool, session.updates, session.cost()), ((FRESH,), (FRESH,), 2))
        self.assertEqual(session.program, Program.read('base x kept k = x def main { x = 0 tell k + 1 tell x }'))

    def test_edit_leaves_out_of_the_pool_what_is_no_action(self):
        text = 'base x y kept k = x kept j = y def main { x = 1 y = 2 tell k + j call p } def p { x = 3 }'
        pool = (('carry', 'main', 0, 'k'), ('carry', 'main', 1, 'j'), ('carry', 'p', 0, 'k'), ('fresh', 'main', 1, 'j'),
                ('fresh', 'main', 3, 'k'))
        session = session_of(text, pool)
        session.perform(edit('def main { y = 1 y = 2 carry j tell k }'))
        self.assertEqual(session.pool, (('carry', 'p', 0, 'k'), ('fresh', 'main', 1, 'j')))
        session.perform(('back',))
        self.assertEqual(session.pool, pool)
        session.perform(edit('def p { }'))
        self.assertEqual(session.pool, pool[:2] + pool[3:])
        session.perform(edit('def p { x = 3 }'))
        self.assertEqual(session.pool, pool[:2] + pool[3:])

    def test_edit_leaves_out_of_the_weights_what_is_no_place(self):
        session = session_of(TEXT + ' def p { x = 1 x = 2 }')
        for event in [('weigh', 'main', 0, 5), ('weigh', 'main', 1, 6), ('weigh', 'p', 1, 7), ('weigh', 'p', 0, 0)]:
            session.perform(event)
        self.assertEqual(session.weights(), {('main', 0): 5, ('main', 1): 6, ('p', 1): 7, ('p', 0): 0})
        session.perform(edit('def main { tell k }'))
        self.assertEqual(session.weights(), {('main', 0): 5, ('p', 1): 7, ('p', 0): 0})
        session.perform(edit('def p { if { } }'))
        self.assertEqual(session.weights(), {('main', 0): 5, ('p', 0): 0})
        session.perform(edit('def main { tell k tell k }'))
        self.assertEqual(session.weights(), {('main', 0): 5, ('p', 0): 0})
        for wanted in [{('main', 0): 5, ('p', 0): 0}, {('main', 0): 5, ('p', 1): 7, ('p', 0): 0}]:
            session.perform(('back',))
            self.assertEqual(session.weights(), wanted)

    def test_edit_adds_a_procedure(self):
        session = session_of()
        self.assertEqual(session.perform(edit('def p { x = ? }')), 'same')
        self.assertEqual(session.program.procedures, ('main', 'p'))
        self.assertEqual(session.perform(('offer', ('carry', 'p', 0, 'k'))), 'same')
        self.assertEqual(session.perform(edit('def main { call p tell k }')), 'other')
        self.assertEqual((session.pool, session.updates), ((('carry', 'p', 0, 'k'), FRESH), (FRESH,)))
        self.assertEqual([session.perform(('back',)) for _ in range(3)], ['other', 'same', 'same'])
        self.assertEqual((session.program, session.pool), (Program.read(TEXT), (CARRY, FRESH)))

    def test_offer_and_withdraw(self):
        session = session_of(pool=())
        steps = [(('offer', FRESH), 'other', (FRESH,), (FRESH,)), (('offer', CARRY), 'other', (CARRY, FRESH), (CARRY,)),
                 (('offer', ('fresh', 'main', 0, 'k')), 'same', (CARRY, ('fresh', 'main', 0, 'k'), FRESH), (CARRY,)),
                 (('withdraw', CARRY), 'other', (('fresh', 'main', 0, 'k'), FRESH), (FRESH,)),
                 (('withdraw', FRESH), 'none', (('fresh', 'main', 0, 'k'),), None),
                 (('withdraw', ('fresh', 'main', 0, 'k')), 'same', (), None), (('offer', CARRY), 'other', (CARRY,), (CARRY,))]
        for event, word, pool, updates in steps:
            self.assertEqual((session.perform(event), session.pool, session.updates), (word, pool, updates))
        self.assertEqual(session.journal(), [event for event, _, _, _ in steps])

    def test_weigh(self):
        session = session_of()
        steps = [(('main', 0, 2), 'other', (FRESH,), 2), (('main', 1, 3), 'other', (CARRY,), 4), (('main', 1, 0), 'other', (FRESH,), 0),
                 (('main', 0, 0), 'other', (CARRY,), 0), (('main', 0, 0), 'same', (CARRY,), 0), (('main', 0, 10 ** 50), 'other', (FRESH,), 0)]
        given = {}
        for (name, place, number), word, updates, total in steps:
            self.assertEqual(session.perform(('weigh', name, place, number)), word)
            self.assertEqual((session.updates, session.cost()), (updates, total))
            given[name, place] = number
            self.assertEqual(session.weights(), given)

    def test_a_weight_of_one_is_given_too(self):
        session = session_of()
        self.assertEqual((session.perform(('weigh', 'main', 0, 1)), session.weights()), ('same', {('main', 0): 1}))

    def test_actions_that_no_run_reaches(self):
        session = session_of(TEXT + ' def far { x = 1 }')
        self.assertEqual(session.perform(('offer', ('carry', 'far', 0, 'k'))), 'same')
        self.assertEqual(session.pool, (('carry', 'far', 0, 'k'), CARRY, FRESH))


class Backs(unittest.TestCase):
    def test_behind_each_kind(self):
        for event in [edit('def main { }'), edit('def p { x = 1 }'), ('offer', ('fresh', 'main', 0, 'k')), ('withdraw', CARRY),
                      ('weigh', 'main', 0, 7)]:
            session = session_of()
            before = told_by(session)[:-1]
            session.perform(event)
            session.perform(('back',))
            self.assertEqual(told_by(session), before + ([event, ('back',)],))
            with self.assertRaises(FreshError):
                session.perform(('back',))
            self.assertEqual(told_by(session), before + ([event, ('back',)],))

    def test_several(self):
        session = session_of()
        events = [('weigh', 'main', 0, 2), ('weigh', 'main', 0, 3), ('weigh', 'main', 1, 4), ('weigh', 'main', 0, 5)]
        for event in events:
            session.perform(event)
        for wanted in [{('main', 0): 3, ('main', 1): 4}, {('main', 0): 3}, {('main', 0): 2}, {}]:
            session.perform(('back',))
            self.assertEqual(session.weights(), wanted)
        self.assertEqual(session.journal(), events + [('back',)] * 4)

    def test_behind_a_back(self):
        """A back is not taken back itself, and what was taken back is not taken back again."""
        session = session_of()
        for event, wanted in [(('weigh', 'main', 0, 2), {('main', 0): 2}), (('weigh', 'main', 1, 3), {('main', 0): 2, ('main', 1): 3}),
                              (('back',), {('main', 0): 2}), (('weigh', 'main', 1, 4), {('main', 0): 2, ('main', 1): 4}),
                              (('back',), {('main', 0): 2}), (('back',), {})]:
            session.perform(event)
            self.assertEqual(session.weights(), wanted)
        with self.assertRaises(FreshError):
            session.perform(('back',))

    def test_words(self):
        session = session_of(pool=())
        self.assertEqual(session.perform(('offer', CARRY)), 'other')
        self.assertEqual(session.perform(('back',)), 'none')
        self.assertEqual(session.perform(('weigh', 'main', 0, 3)), 'same')
        self.assertEqual(session.perform(('back',)), 'same')


class AgainstByHand(unittest.TestCase):
    def test_drawn(self):
        draws = Draws(221)
        words = {}
        tried = 0
        while tried < 25:
            drawn = DrawnEvents(draws, base=2, kept=1 + tried % 2, depth=2)
            program = drawn.program()
            pool = tuple(sorted(draws.shuffled(candidates(program))[:draws.below(6)]))
            start = ('right', 'any')[tried % 3 == 0]
            session, model = Session(program, pool, start=start), SessionByHand(program, pool, start)
            if tried % 5 and not model.updates():
                continue
            tried += 1
            self.assertEqual(told_by(session), model.told())
            for _ in range(12):
                event = drawn.event(model)
                word = model.perform(event)
                self.assertEqual(session.perform(event), word)
                self.assertEqual(told_by(session), model.told())
                words[event[0], word] = words.get((event[0], word), 0) + 1
            self.check_replayed(session, program, pool, start)
        for key in [('edit', 'same'), ('edit', 'none'), ('edit', 'other'), ('offer', 'other'), ('withdraw', 'none'),
                    ('weigh', 'other'), ('back', 'same'), ('back', 'none'), ('back', 'other')]:
            self.assertGreater(words.get(key, 0), 0, key)

    def check_replayed(self, session, program, pool, start):
        """Events that are replayed lead to the same session, from every beginning of the journal."""
        events = session.journal()
        self.assertEqual(told_by(Session.replayed(program, pool, events, start=start)), told_by(session))
        for many in range(len(events) + 1):
            again = Session.replayed(program, pool, events[:many], start=start)
            self.assertEqual(again.journal(), events[:many])
            for event in events[many:]:
                again.perform(event)
            self.assertEqual(told_by(again), told_by(session))


class New(unittest.TestCase):
    def test_lists_and_dicts(self):
        session = session_of()
        session.perform(('weigh', 'main', 0, 3))
        before = told_by(session)
        session.weights()['main', 0] = 9
        session.weights().clear()
        session.journal().append('x')
        session.journal().clear()
        self.assertEqual(told_by(session), before)
        self.assertIsNot(session.weights(), session.weights())
        self.assertIsNot(session.journal(), session.journal())
        self.assertEqual((session.updates, session.cost()), ((FRESH,), 2))

    def test_sessions_do_not_share(self):
        program = Program.read(TEXT)
        one, other = Session(program, (CARRY,)), Session(program, (CARRY,))
        one.perform(('weigh', 'main', 0, 4))
        one.perform(edit('def main { }'))
        self.assertEqual(told_by(other), (program, (CARRY,), (CARRY,), {}, 2, []))

    def test_given_lists_are_not_changed_or_kept(self):
        events = [('weigh', 'main', 0, 4), ('back',)]
        session = Session.replayed(Program.read(TEXT), (CARRY,), events)
        events.append(('back',))
        self.assertEqual(session.journal(), events[:2])
        events = [('weigh', 'main', 0, 5)]
        self.assertEqual(session.trial(events, session.cost), 10)
        self.assertEqual((events, session.cost()), ([('weigh', 'main', 0, 5)], 2))

    def test_properties_cannot_be_assigned(self):
        session = session_of()
        for name in ('program', 'pool', 'updates'):
            with self.assertRaises(AttributeError):
                setattr(session, name, ())


class Trials(unittest.TestCase):
    def test_asks(self):
        session = session_of()
        before = told_by(session)
        events = [('weigh', 'main', 0, 9), edit('def p { }'), ('withdraw', CARRY), ('back',)]
        found = session.trial(events, lambda: told_by(session))
        self.assertEqual(found, (Program.read(TEXT + ' def p { }'), (CARRY, FRESH), (FRESH,), {('main', 0): 9}, 2, events))
        self.assertEqual(told_by(session), before)
        self.assertEqual(session.trial([], lambda: 'x'), 'x')
        self.assertIsNone(session.trial([('weigh', 'main', 0, 1)], lambda: None))
        self.assertEqual(told_by(session), before)

    def test_performs(self):
        session = session_of()
        session.perform(('weigh', 'main', 0, 4))
        before = told_by(session)
        words = session.trial([('withdraw', FRESH)], lambda: [session.perform(event) for event in [
            ('weigh', 'main', 1, 2), ('back',), ('back',), ('back',), ('withdraw', CARRY)]])
        self.assertEqual(words, ['same', 'same', 'other', 'other', 'other'])
        self.assertEqual(told_by(session), before)
        self.assertEqual((session.perform(('back',)), session.weights()), ('other', {}))
        self.assertEqual(session.journal(), [('weigh', 'main', 0, 4), ('back',)])

    def test_an_event_raises(self):
        session = session_of()
        session.perform(('weigh', 'main', 0, 4))
        before = told_by(session)
        called = []
        for events in [['x'], [('withdraw', CARRY), ('withdraw', CARRY)], [('back',), ('back',)], [('weigh', 'main', 1, 1), None]]:
            with self.assertRaises(FreshError):
                session.trial(events, lambda: called.append(1))
            self.assertEqual(told_by(session), before)
        self.assertEqual(called, [])

    def test_the_call_raises(self):
        session = session_of()
        before = told_by(session)

        def call():
            session.perform(('weigh', 'main', 0, 4))
            raise ZeroDivisionError

        with self.assertRaises(ZeroDivisionError):
            session.trial([('withdraw', CARRY)], call)
        self.assertEqual(told_by(session), before)
        with self.assertRaises(FreshError):
            session.trial([('withdraw', CARRY)], lambda: session.perform(('withdraw', CARRY)))
        self.assertEqual(told_by(session), before)

    def test_nested(self):
        session = session_of()
        seen = []

        def inner():
            seen.append((session.weights(), session.journal()))
            session.perform(('back',))
            return session.weights()

        def outer():
            seen.append(session.weights())
            found = session.trial([('weigh', 'main', 1, 3)], inner)
            seen.append((session.weights(), session.journal()))
            with self.assertRaises(FreshError):
                session.trial([('back',), ('back',)], inner)
            seen.append((session.weights(), session.journal()))
            return found

        one, two = ('weigh', 'main', 0, 2), ('weigh', 'main', 1, 3)
        self.assertEqual(session.trial([one], outer), {('main', 0): 2})
        self.assertEqual(seen, [{('main', 0): 2}, ({('main', 0): 2, ('main', 1): 3}, [one, two]), ({('main', 0): 2}, [one]),
                                ({('main', 0): 2}, [one])])
        self.assertEqual(told_by(session), told_by(session_of()))

    def test_drawn(self):
        draws = Draws(222)
        for at in range(15):
            drawn = DrawnEvents(draws, base=2, kept=1, depth=2)
            program = drawn.program()
            pool = tuple(sorted(draws.shuffled(candidates(program))[:3]))
            session, model = Session(program, pool), SessionByHand(program, pool)
            for _ in range(at % 4):
                event = drawn.event(model)
                session.perform(event)
                model.perform(event)
            before = told_by(session)
            events = []
            for _ in range(4):
                events.append(drawn.event(model))
                model.perform(events[-1])
            self.assertEqual(session.trial(events, lambda: told_by(session)), model.told())
            self.assertEqual(told_by(session), before)
            with self.assertRaises(FreshError):
                session.trial(events + [('back', 1)], lambda: None)
            self.assertEqual(told_by(session), before)


class Recovered(unittest.TestCase):
    def test_up_to_the_first_refused_event(self):
        program = Program.read(TEXT)
        events = [('weigh', 'main', 0, 3), ('back',), ('offer', FRESH), ('back',), ('back',), ('weigh', 'main', 0, 4)]
        session = Session.recovered(program, (CARRY,), journal_text(events))
        self.assertEqual(told_by(session), told_by(Session.replayed(program, (CARRY,), events[:4])))
        for event in [('withdraw', FRESH), ('offer', CARRY), ('weigh', 'main', 2, 1), ('edit', 'main', (('call', 'main'),)),
                      ('offer', ('carry', 'main', 1, 'k')), ('edit', 'p', (('fresh', 'x'),))]:
            text = journal_text([('weigh', 'main', 1, 3), event, ('weigh', 'main', 0, 4)])
            self.assertEqual(Session.recovered(program, (CARRY,), text).journal(), [('weigh', 'main', 1, 3)])

    def test_torn(self):
        program = Program.read(TEXT)
        events = [('weigh', 'main', 0, 3), ('offer', FRESH), ('back',), edit('def p { while { x = ? carry k } }'), ('weigh', 'p', 1, 0)]
        text = journal_text(events)
        for many in range(len(text) + 1):
            session = Session.recovered(program, (CARRY,), text[:many])
            self.assertEqual(told_by(session), told_by(Session.replayed(program, (CARRY,), events[:text[:many].count('\n')])))
        self.assertEqual(told_by(Session.recovered(program, (CARRY,), '')), told_by(Session(program, (CARRY,))))

    def test_a_journal_of_too_many(self):
        program = Program.read('base x kept k = x def main { x = 1 x = 1 x = 1 x = 1 x = 1 x = 1 x = 1 tell k }')
        events = [('offer', action) for action in candidates(program)]
        self.assertEqual(len(events), 15)
        self.assertEqual(Session.recovered(program, (), journal_text(events)).journal(), events[:12])


class Unchanged(unittest.TestCase):
    def places(self, program):
        return [(name, place) for name in program.procedures for place, _ in program.statements(name)]

    def test_equal_programs(self):
        for text in [TEXT, TEXT + ' def far { tell x if { call g } } def g { }', 'base a handlers h def main { pause } def h { a = ? }']:
            for start in ('right', 'any'):
                program = Program.read(text)
                self.assertEqual(unchanged(program, Program.read(text), start=start), self.places(program))

    def test_one_block(self):
        text = 'base a b kept k = a def main { a = 1 call p tell k b = ? } def p { b = %s } def q { tell k }'
        old, new = Program.read(text % '2'), Program.read(text % '3')
        self.assertEqual(unchanged(old, new), [('main', 0), ('main', 1), ('q', 0)])
        old, new = Program.read(text % '2'), Program.read(text % 'a + 1')
        self.assertEqual(unchanged(old, new), [('main', 0), ('main', 1), ('main', 2), ('main', 3), ('q', 0)])

    def test_the_space_alone(self):
        """The statement is the same, but what arrives there is not, or the other way round."""
        old = Program.read('base a kept k = a def main { a = 1 tell k tell a }')
        new = Program.read('base a kept k = a def main { a = ? tell k tell a }')
        self.assertEqual(unchanged(old, new), [])
        new = Program.read('base a kept k = a def main { a = 1 tell k + 1 tell a }')
        self.assertEqual(unchanged(old, new), [('main', 0), ('main', 2)])

    def test_blocks_are_part_of_their_statement(self):
        old = Program.read('base a def main { while { tell a tell 1 } if { tell a } else { tell 2 } tell 3 }')
        new = Program.read('base a def main { while { tell a tell 2 } if { tell a } else { tell 2 } tell 3 }')
        self.assertEqual(unchanged(old, new), [('main', 1), ('main', 3), ('main', 4), ('main', 5), ('main', 6)])

    def test_a_procedure_more(self):
        old = Program.read('base a kept k = a def main { tell k }')
        new = Program.read('base a kept k = a def main { tell k } def p { tell k }')
        self.assertEqual((unchanged(old, new), unchanged(new, old)), ([('main', 0)], [('main', 0)]))
        new = Program.read('base a kept k = a def main { tell k tell k } def p { tell k }')
        self.assertEqual((unchanged(old, new), unchanged(new, old)), ([('main', 0)], [('main', 0)]))

    def test_the_order_is_that_of_the_new_program(self):
        old = Program.read('base a def main { } def p { tell a } def q { tell a tell 1 }')
        new = Program.read('base a def main { } def q { tell a tell 1 } def p { tell a }')
        self.assertEqual(unchanged(old, new), [('q', 0), ('q', 1), ('p', 0)])

    def test_handlers_may_differ(self):
        old = Program.read('base a kept k = a handlers h def main { pause tell k } def h { a = 1 }')
        new = Program.read('base a kept k = a def main { pause tell k } def h { a = 1 }')
        self.assertEqual(unchanged(old, new), [('main', 0)])

    def test_starts(self):
        old = Program.read('base a kept k = a def main { fresh k tell k }')
        new = Program.read('base a kept k = a def main { if { } tell k }')
        self.assertEqual((unchanged(old, new), unchanged(old, new, start='any')), ([('main', 1)], []))
        self.assertEqual(unchanged(start='right', new=new, old=old), [('main', 1)])

    def test_drawn(self):
        draws = Draws(223)
        seen = 0
        for at in range(60):
            drawn = DrawnEvents(draws, base=2, kept=2, depth=2)
            old = drawn.program(40)
            _, name, block = drawn.edit(old, 40)
            new = old.replaced(name, block)
            start = ('right', 'any')[at % 2]
            before, after = States(old, start=start), States(new, start=start)
            known = {(other, place): statement for other in old.procedures for place, statement in old.statements(other)}
            wanted = [(other, place) for other in new.procedures for place, statement in new.statements(other)
                      if known.get((other, place)) == statement and before.space(other, place) == after.space(other, place)]
            self.assertEqual(unchanged(old, new, start=start), wanted)
            seen += len(wanted) not in (0, len(self.places(new)))
        self.assertGreater(seen, 20)


if __name__ == '__main__':
    unittest.main()
