import unittest

from draws import Draws
from freshplaces.actions import candidates
from freshplaces.cheapest import cheapest_paper, is_cheapest
from freshplaces.errors import FreshError, InvalidAction, TooMany, UnknownName
from freshplaces.ledgers import is_ledger, ledger
from freshplaces.programs import Program
from freshplaces.sessions import Session
from freshplaces.texts import parse_procedure
from sessionbyhand import DrawnEvents, SessionByHand, told_by
from strange import Agreeing, strange_values

TEXT = 'base x kept k = x def main { while { x = x + 1 } tell k }'
CARRY, FRESH, AHEAD = ('carry', 'main', 1, 'k'), ('fresh', 'main', 2, 'k'), ('fresh', 'main', 0, 'k')
EVENTS = [('weigh', 'main', 2, 9), ('withdraw', CARRY), ('offer', AHEAD), ('withdraw', FRESH), ('back',), ('back',), ('back',),
          ('edit', 'main', parse_procedure('def main { while { x = x + 2 } tell k }')[1]), ('edit', 'p', ()), ('offer', AHEAD)]


def is_ledger_by_hand(program, pool, value, start):
    """Whether a pair with a tuple of triples is a ledger, by what a session does with its events."""
    first, rows = value
    session = Session(program, pool, start=start)
    if not is_cheapest(program, pool, first, start=start):
        return False
    for event, word, paper in rows:
        try:
            due = session.perform(event)
        except FreshError:
            return False
        if word != due or not is_cheapest(session.program, session.pool, paper, weights=session.weights(), start=start):
            return False
    return True


class Examples(unittest.TestCase):
    def test_rows(self):
        program = Program.read('base a kept k = a def main { a = 1 tell k }')
        session = Session(program)
        carry, fresh = ('carry', 'main', 0, 'k'), ('fresh', 'main', 1, 'k')
        events = [('offer', carry), ('offer', fresh), ('weigh', 'main', 0, 9), ('back',)]
        words = [session.perform(event) for event in events]
        first, rows = ledger(session)
        self.assertEqual((first[0], first[2]), (None, None))
        self.assertEqual([row[:2] for row in rows], list(zip(events, words)))
        self.assertEqual([row[2][0] for row in rows], [(carry,), (carry,), (fresh,), (carry,)])
        self.assertTrue(is_ledger(program, (), (first, rows)))

    def test_papers_are_those_of_cheapest_paper(self):
        session = Session(Program.read(TEXT), (CARRY, FRESH))
        found = [cheapest_paper(session.program, session.pool, weights=session.weights())]
        for event in EVENTS:
            session.perform(event)
            found.append(cheapest_paper(session.program, session.pool, weights=session.weights()))
        first, rows = ledger(session)
        self.assertEqual([first] + [row[2] for row in rows], found)

    def test_without_events(self):
        for start in ('right', 'any'):
            program = Program.read(TEXT)
            value = ledger(Session(program, (CARRY,), start=start))
            self.assertEqual(value, (cheapest_paper(program, (CARRY,), start=start), ()))
            self.assertIs(is_ledger(program, (CARRY,), value, start=start), True)


class Accepted(unittest.TestCase):
    def test_events_of_each_kind(self):
        for start in ('right', 'any'):
            program = Program.read(TEXT)
            session = Session(program, (CARRY, FRESH), start=start)
            for many in range(len(EVENTS) + 1):
                before = told_by(session)
                value = ledger(session)
                self.assertEqual(told_by(session), before)
                self.assertEqual([row[0] for row in value[1]], EVENTS[:many])
                self.assertIs(is_ledger(program, (CARRY, FRESH), value, start=start), True)
                self.assertEqual(ledger(session=session), value)
                if many < len(EVENTS):
                    session.perform(EVENTS[many])

    def test_replayed_and_recovered_sessions(self):
        program = Program.read(TEXT)
        session = Session.replayed(program, (CARRY, FRESH), EVENTS, start='any')
        self.assertTrue(is_ledger(program, (CARRY, FRESH), ledger(session), start='any'))

    def test_in_trials(self):
        program = Program.read(TEXT)
        session = Session.replayed(program, (CARRY, FRESH), EVENTS[:2])
        before = ledger(session)
        inside = session.trial(EVENTS[2:5], lambda: ledger(session))
        self.assertEqual([row[0] for row in inside[1]], EVENTS[:5])
        self.assertTrue(is_ledger(program, (CARRY, FRESH), inside))
        self.assertEqual(ledger(session), before)

    def test_drawn(self):
        draws = Draws(241)
        for at in range(20):
            drawn = DrawnEvents(draws, base=2, kept=1 + at % 2, depth=2)
            program = drawn.program()
            pool = tuple(sorted(draws.shuffled(candidates(program))[:draws.below(5)]))
            start = ('right', 'any')[at % 3 == 0]
            session, model = Session(program, pool, start=start), SessionByHand(program, pool, start)
            words = []
            for _ in range(8):
                event = drawn.event(model)
                words.append(model.perform(event))
                session.perform(event)
            value = ledger(session)
            self.assertEqual([row[1] for row in value[1]], words)
            self.assertTrue(is_ledger(program, pool, value, start=start))

    def test_runs_more_and_in_another_order(self):
        program = Program.read(TEXT)
        session = Session.replayed(program, (CARRY, FRESH), EVENTS[:2])
        first, rows = ledger(session)
        for paper in [(first[0], first[1] * 2, first[2]), (first[0], ((((3,), (1, 1), ())),) + first[1], first[2]),
                      (first[0], first[1] + (((0,), (), ()),), first[2])]:
            self.assertTrue(is_ledger(program, (CARRY, FRESH), (paper, rows)))


class Refused(unittest.TestCase):
    def setUp(self):
        self.program, self.pool = Program.read(TEXT), (CARRY, FRESH)
        self.session = Session.replayed(self.program, self.pool, EVENTS)
        self.first, self.rows = ledger(self.session)

    def check(self, first, rows, wanted=None):
        found = is_ledger(self.program, self.pool, (first, rows))
        self.assertIs(found, is_ledger_by_hand(self.program, self.pool, (first, rows), 'right'))
        if wanted is not None:
            self.assertIs(found, wanted)
        return found

    def test_words(self):
        for at, (event, word, paper) in enumerate(self.rows):
            for other in ['same', 'none', 'other']:
                rows = self.rows[:at] + ((event, other, paper),) + self.rows[at + 1:]
                self.check(self.first, rows, other == word)
            for other in [*strange_values(), '', 'Same', (word,), word.encode(), word + ' ', [word]]:
                rows = self.rows[:at] + ((event, other, paper),) + self.rows[at + 1:]
                self.assertIs(is_ledger(self.program, self.pool, (self.first, rows)), False)

    def test_events(self):
        for at, (event, word, paper) in enumerate(self.rows):
            for other in [*strange_values(), 'back', list(event), event + (1,), ('offer', 'x'), ('weigh', 'main', 9, 9), ('edit', 'p', [])]:
                rows = self.rows[:at] + ((other, word, paper),) + self.rows[at + 1:]
                self.assertIs(is_ledger(self.program, self.pool, (self.first, rows)), False, (at, other))
            for other in EVENTS + [('weigh', 'main', 2, 0), ('withdraw', AHEAD)]:
                self.check(self.first, self.rows[:at] + ((other, word, paper),) + self.rows[at + 1:])

    def test_rows_left_out_twice_or_exchanged(self):
        found = {True: 0, False: 0}
        for at in range(len(self.rows)):
            found[self.check(self.first, self.rows[:at] + self.rows[at + 1:])] += 1
            found[self.check(self.first, self.rows[:at + 1] + self.rows[at:])] += 1
            for other in range(at):
                rows = list(self.rows)
                rows[at], rows[other] = rows[other], rows[at]
                found[self.check(self.first, tuple(rows))] += 1
            self.check(self.first, self.rows[:at], True)
        self.assertGreater(min(found.values()), 1)

    def test_papers(self):
        found = {True: 0, False: 0}
        papers = [self.first] + [row[2] for row in self.rows]
        for at, (event, word, paper) in enumerate(self.rows):
            for other in papers + [(None, paper[1], None), paper[:2], list(paper), paper[:1] + (list(paper[1]),) + paper[2:]]:
                found[self.check(self.first, self.rows[:at] + ((event, word, other),) + self.rows[at + 1:])] += 1
            for other in strange_values():
                rows = self.rows[:at] + ((event, word, other),) + self.rows[at + 1:]
                self.assertIs(is_ledger(self.program, self.pool, (self.first, rows)), False)
        for other in papers[1:] + [(None, self.first[1], None)]:
            found[self.check(other, self.rows)] += 1
        self.assertGreater(min(found.values()), 5)

    def test_a_run_less(self):
        seen = 0
        for at, (event, word, paper) in enumerate(self.rows):
            for one in range(len(paper[1])):
                less = (paper[0], paper[1][:one] + paper[1][one + 1:], paper[2])
                seen += not self.check(self.first, self.rows[:at] + ((event, word, less),) + self.rows[at + 1:])
        self.assertGreater(seen, 3)
        self.check((self.first[0], (), self.first[2]), self.rows, False)

    def test_another_pool_or_start_or_program(self):
        value = (self.first, self.rows)
        for program, pool, start in [(self.program, (CARRY,), 'right'), (self.program, (), 'right'), (self.program, self.pool, 'any'),
                                     (Program.read(TEXT.replace('tell k', 'tell k tell k')), self.pool, 'right'),
                                     (Program.read(TEXT.replace('+ 1', '+ 2')), self.pool, 'right')]:
            self.assertIs(is_ledger(program, pool, value, start=start), is_ledger_by_hand(program, pool, value, start))
        self.assertIs(is_ledger(self.program, (CARRY,), value), False)
        self.assertIs(is_ledger(self.program, self.pool, value, start='any'), False)

    def test_weights_count_in_papers(self):
        """Papers that would be accepted without the weights, or with those before the event."""
        program = Program.read('base x kept k = x def main { x = x + 1 tell k }')
        carry, fresh = ('carry', 'main', 0, 'k'), ('fresh', 'main', 1, 'k')
        first, rows = ledger(Session.replayed(program, (carry, fresh), [('weigh', 'main', 0, 9)]))
        self.assertTrue(is_ledger(program, (carry, fresh), (first, rows)))
        self.assertFalse(is_ledger(program, (carry, fresh), (first, ((rows[0][0], 'same', first),))))
        self.assertFalse(is_ledger(program, (carry, fresh), (first, ((rows[0][0], 'other', first),))))
        self.assertFalse(is_ledger(program, (carry, fresh), (rows[0][2], rows)))

    def test_a_thirteenth_action(self):
        program = Program.read('base x kept k = x def main { x = 1 x = 1 x = 1 x = 1 x = 1 x = 1 x = 1 tell k }')
        every = tuple(candidates(program))
        first, rows = ledger(Session(program, every[:12]))
        for event in [('offer', every[12]), ('offer', every[0])]:
            self.assertIs(is_ledger(program, every[:12], (first, ((event, 'same', first),))), False)

    def test_values_of_other_kinds(self):
        for value in [*strange_values(), (self.first,), (self.first, self.rows, ()), [self.first, self.rows], (self.first, list(self.rows)),
                      (self.first, None), (None, self.rows), (self.first, self.rows[0]), (self.first, ((),)), (self.first, (None,)),
                      (self.first, (list(self.rows[0]),)), (self.first, (self.rows[0][:2],)), (self.first, (self.rows[0] + (1,),)),
                      (self.first, Agreeing()), (Agreeing(), self.rows), (self.first, 'abc'), (self.first, ('abc',)), 'ab', (self.first, {})]:
            self.assertIs(is_ledger(self.program, self.pool, value), False)
        self.assertIs(is_ledger(self.program, self.pool, (self.first, ())), True)


class Errors(unittest.TestCase):
    program = Program.read('base a kept k = a kept j = a def main { a = 1 tell k a = ? carry k tell j tell a tell a }')
    many = tuple(candidates(program))[:13]

    def check(self, pool, value, start, error, field, wanted):
        for call in [lambda: is_ledger(self.program, pool, value, start=start),
                     lambda: is_ledger(start=start, value=value, pool=pool, program=self.program)]:
            with self.subTest(pool=pool, value=value, start=start), self.assertRaises(error) as caught:
                call()
            self.assertIs(type(caught.exception), error)
            self.assertIs(getattr(caught.exception, field), wanted)

    def test_in_their_order(self):
        for value in [None, (), ((), ()), (None, None), 'x', Agreeing(), ledger(Session(self.program))]:
            for pool in [value for value in strange_values() if type(value) is not tuple] + [list(self.many)]:
                for start in ('right', 'left'):
                    self.check(pool, value, start, InvalidAction, 'value', pool)
            self.check(self.many + (None,), value, 'left', InvalidAction, 'value', None)
            for start in [*strange_values(), 'left']:
                for pool in ((), self.many):
                    self.check(pool, value, start, UnknownName, 'name', start)
            self.check(self.many, value, 'right', TooMany, 'word', 'candidates')
            self.check(self.many, value, 'any', TooMany, 'word', 'candidates')

    def test_keywords_alone(self):
        with self.assertRaises(TypeError):
            is_ledger(self.program, (), None, 'right')


if __name__ == '__main__':
    unittest.main()
