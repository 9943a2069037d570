"""From the text of a program over sessions, journals and ledgers to the program in which the updates are written."""

import unittest

from byhand import ByHand, all_runs, few_entries
from draws import Draws
from freshplaces.actions import anew, candidates, cost, updated
from freshplaces.campaigns import campaign, counted, exposed
from freshplaces.cheapest import cheapest
from freshplaces.console import Console
from freshplaces.handlers import blamed, parted, prices
from freshplaces.journals import event_text, journal_text, recovered
from freshplaces.ledgers import is_ledger, ledger
from freshplaces.machine import Machine
from freshplaces.needs import needs
from freshplaces.papers import is_paper, paper
from freshplaces.printing import show
from freshplaces.programs import Program
from freshplaces.questions import ask
from freshplaces.sessions import Session, unchanged
from freshplaces.states import States, is_right
from sessionbyhand import DrawnEvents, SessionByHand, told_by

TEXT = '''base price amount
kept total = 2*amount + price
kept due = total + 10
handlers change
def main {
  price = ?
  while {
    amount = amount + 1
    pause
  }
  tell due
  call report
}
def change {
  price = price + 5
}
def report {
  tell due + total
}
'''


def performed(draws, at, many):
    """A program, a pool, a start, and a session behind drawn events."""
    drawn = DrawnEvents(draws, base=2, kept=1 + at % 2, depth=2)
    program = drawn.program()
    pool = tuple(sorted(draws.shuffled(candidates(program))[:4]))
    start = ('right', 'any')[at % 3 == 0]
    session, model = Session(program, pool, start=start), SessionByHand(program, pool, start)
    for _ in range(many):
        event = drawn.event(model)
        model.perform(event)
        session.perform(event)
    return program, pool, start, session


class OneProgram(unittest.TestCase):
    def test_from_the_text_to_the_written_program(self):
        program = Program.read(TEXT)
        self.assertEqual(show(program.tree()), TEXT)
        self.assertEqual(ask(program, 'count verdict stale'), 3)
        self.assertEqual(needs(program, 'report'), ('total', 'due'))
        self.assertEqual(blamed(program), [])
        places = [('carry', 'change', 0), ('carry', 'main', 0), ('carry', 'main', 2)]
        pool = tuple(place + (kept,) for place in places for kept in ('due', 'total'))
        session = Session(program, pool)
        self.assertEqual((session.updates, session.cost()), (pool, 14))
        self.assertEqual(session.perform(('offer', ('fresh', 'main', 4, 'total'))), 'other')
        self.assertEqual(session.perform(('offer', ('fresh', 'main', 4, 'due'))), 'other')
        self.assertEqual((session.updates, session.cost()), ((('fresh', 'main', 4, 'due'), ('fresh', 'main', 4, 'total')), 5))
        self.assertEqual(session.trial([('weigh', 'main', 4, 10)], session.cost), 14)
        inside, outside = parted(program, session.pool)
        self.assertEqual((len(inside), len(outside)), (2, 6))
        self.assertEqual([price and price[0] for price in prices(program, session.pool).values()], [5, None, 5])
        written = updated(program, session.updates)
        self.assertEqual(show(written.tree()), TEXT.replace('  tell due\n', '  fresh total\n  fresh due\n  tell due\n'))
        self.assertTrue(is_paper(written, (), paper(written)))
        self.assertEqual(exposed(program, (1, 1), 4), [('main', 4, 'due'), ('report', 0, 'total'), ('report', 0, 'due')])
        self.assertEqual(exposed(written, (1, 1), 5), [])
        self.assertEqual([text.split()[0] for text in (event_text(event) for event in session.journal())], ['offer', 'offer'])
        self.assertEqual(unchanged(program, written)[:4], [('main', 0), ('main', 1), ('main', 2), ('main', 3)])

    def test_the_same_on_a_console(self):
        console = Console()
        self.assertEqual(console.execute('program ' + ' '.join(TEXT.split())), 'ok')
        words = ['ask count verdict stale', 'offer fresh main 4 total', 'offer fresh main 4 due', 'updates', 'written', 'uses', 'run 1,1 7,1,1,0', 'back']
        self.assertEqual([console.execute(word) for word in words], [
            '3', 'same', 'other 5', 'fresh main 4 due\nfresh main 4 total', TEXT.replace('  tell due\n', '  fresh total\n  fresh due\n  tell due\n')[:-1],
            'main 4 due right\nreport 0 total right\nreport 0 due right', '12 2 16 26\n26 42\n-', 'none'])


class Drawn(unittest.TestCase):
    def test_sessions_journals_and_ledgers(self):
        draws = Draws(291)
        for at in range(12):
            program, pool, start, session = performed(draws, at, 8)
            self.assertEqual(Program.read(show(program.tree())), program)
            text = journal_text(session.journal())
            self.assertEqual(recovered(text), session.journal())
            for many in sorted(draws.below(len(text) + 1) for _ in range(6)) + [len(text)]:
                events = session.journal()[:text[:many].count('\n')]
                torn = Session.recovered(program, pool, text[:many], start=start)
                self.assertEqual(told_by(torn), told_by(Session.replayed(program, pool, events, start=start)))
                value = ledger(torn)
                self.assertEqual([row[0] for row in value[1]], events)
                self.assertTrue(is_ledger(program, pool, value, start=start))

    def test_written_updates(self):
        draws = Draws(292)
        done = 0
        for at in range(200):
            program, _, start, session = performed(draws, at, 5)
            if not session.updates:
                continue
            done += 1
            written = updated(session.program, session.updates)
            self.assertTrue(is_right(written, (), start))
            self.assertEqual(cheapest(written, (), start=start), ((), []))
            machine, other, plain = Machine(session.program, session.updates), Machine(written), Machine(anew(session.program))
            for entry in few_entries(session.program, start):
                for choices, outcome in list(machine.runs(entry, 3))[:12]:
                    self.assertEqual((other(entry, choices), other.work(entry, choices)), (outcome, machine.work(entry, choices)))
                    self.assertEqual(machine.stale(entry, choices), [])
                    length = len(session.program.base)
                    values, told, used = plain(entry[:length], choices)
                    self.assertEqual((values, told, used), (outcome[0][:length], outcome[1], outcome[2]))
        self.assertGreater(done, 20)

    def test_weights_that_are_counted(self):
        """Weights are given by events; then the cost of a session is the work that its updates add to the runs."""
        draws = Draws(293)
        done = 0
        for at in range(60):
            program, _, start, session = performed(draws, at, 3)
            entry = draws.one_of(list(few_entries(session.program, start)))
            runs = [choices for choices, _ in campaign(session.program, entry, 3)][:6]
            weights = counted(session.program, entry, runs)
            for (name, place), number in weights.items():
                session.perform(('weigh', name, place, number))
            self.assertEqual(session.weights(), weights)
            if session.updates is None:
                continue
            done += bool(session.updates)
            self.assertEqual(session.cost(), cost(session.program, session.updates, weights))
            added = sum(Machine(session.program, session.updates).work(entry, choices) - Machine(session.program).work(entry, choices)
                        for choices in runs)
            self.assertEqual(session.cost(), added)
        self.assertGreater(done, 8)

    def test_campaigns_and_states(self):
        """Uses that are exposed are stale; those that are told to be right are exposed by no run."""
        draws = Draws(294)
        seen = 0
        for at in range(40):
            program, _, start, session = performed(draws, at, 2)
            updates = session.updates or ()
            stale = States(session.program, updates, start).stale_uses()
            for entry in few_entries(session.program, start):
                found = exposed(session.program, entry, 4, updates)
                self.assertLessEqual(set(found), set(stale))
                seen += len(found)
                by_hand = {use for run in all_runs(session.program, updates, entry, 4) for use in run.stale}
                self.assertEqual(set(found), by_hand)
            for use in stale:
                entry, choices, _ = States(session.program, updates, start).stale(*use)
                self.assertIn(use, ByHand(session.program, updates, entry, choices).stale)
        self.assertGreater(seen, 20)

    def test_equal_calls_tell_the_same(self):
        draws = Draws(295)
        for at in range(10):
            program, pool, start, session = performed(draws, at, 4)
            before = (told_by(session), repr(program.tree()), repr(pool))
            for call in [lambda: ledger(session), lambda: prices(program, pool, start=start), lambda: blamed(program, pool, start=start),
                         lambda: needs(program, 'main', pool), lambda: list(campaign(program, (0, 0), 2, pool)),
                         lambda: unchanged(program, session.program, start=start) if session.program.base == program.base else None,
                         lambda: States(program, pool, start).arrived('main', 0), lambda: journal_text(session.journal())]:
                self.assertEqual(call(), call())
            self.assertEqual((told_by(session), repr(program.tree()), repr(pool)), before)


if __name__ == '__main__':
    unittest.main()
