import itertools
import unittest

from byhand import ByHand, all_runs
from draws import Draws
from freshplaces.errors import InvalidAction, UnknownName, UnknownProcedure
from freshplaces.needs import leaves, needs
from freshplaces.programs import Program
from freshplaces.states import States, is_right
from programs_drawn import drawn_program, drawn_updates
from strange import strange_values

TWO = 'base a b kept k = a kept j = b '


def begun_by_itself(program, name):
    """The program whose start is another procedure; what stands before it cannot be called from there."""
    base, kept, handlers, procedures = program.tree()
    rest = procedures[program.procedures.index(name):]
    names = [other for other, _ in rest]
    return Program((base, kept, tuple(handler for handler in handlers if handler in names), rest))


def correct_values(program, values):
    """The values of the kept variables that are right with some values of the base variables."""
    known = dict(zip(program.base, values))
    for kept in program.kept:
        constant, terms = program.formula(kept)
        known[kept] = constant + sum(factor * known[other] for other, factor in terms)
    return [known[kept] for kept in program.kept]


def entries_with(program, right):
    """Entries at which the kept variables of a set are right, and the other ones right or too great by one."""
    free = [kept for kept in program.kept if kept not in right]
    length = len(program.base)
    for values in [(0,) * length] + [tuple(int(at == place) for at in range(length)) for place in range(length)]:
        for many in range(len(free) + 1):
            for wrong in itertools.combinations(free, many):
                correct = correct_values(program, values)
                yield values + tuple(value + (kept in wrong) for kept, value in zip(program.kept, correct))


def is_refuted(program, name, right, updates, kept, most):
    """Whether a run with few choices makes a stale use, or ends with a kept variable that is not right."""
    alone = begun_by_itself(program, name)
    some = tuple(action for action in updates if action[1] in alone)
    for entry in entries_with(program, right):
        for run in all_runs(alone, some, entry, most, whole=False):
            if kept is None and run.stale:
                return True
            if kept is not None and run.ended and run.values[kept] != run.correct(kept):
                return True
    return False


class Examples(unittest.TestCase):
    def test_of_the_document(self):
        program = Program.read('base x kept k = x def main { call p } def p { tell k x = 1 }')
        self.assertEqual((needs(program, 'p'), leaves(program, 'p', 'k'), leaves(program, 'p', 'k', (('carry', 'p', 1, 'k'),))),
                         (('k',), None, ('k',)))


class ByHandWritten(unittest.TestCase):
    def test_without_uses(self):
        program = Program.read(TWO + 'def main { a = 1 b = ? fresh k } def p { }')
        self.assertEqual([needs(program, name) for name in ('main', 'p')], [(), ()])
        self.assertEqual([leaves(program, 'p', kept) for kept in 'kj'], [('k',), ('j',)])
        self.assertEqual([leaves(program, 'main', kept) for kept in 'kj'], [(), None])

    def test_uses(self):
        program = Program.read(TWO + 'def main { tell k } def p { tell j + k } def q { a = j } def r { tell a }')
        self.assertEqual([needs(program, name) for name in program.procedures], [('k',), ('k', 'j'), ('j',), ()])

    def test_fresh_before(self):
        program = Program.read(TWO + 'def main { fresh k tell k } def p { if { fresh k } tell k } def q { while { fresh k } tell k }')
        self.assertEqual([needs(program, name) for name in program.procedures], [(), ('k',), ('k',)])
        self.assertEqual([leaves(program, name, 'k') for name in program.procedures], [(), ('k',), ('k',)])

    def test_calls(self):
        program = Program.read(TWO + 'def main { call p tell j } def p { call q } def q { tell k b = 0 carry j }')
        self.assertEqual([needs(program, name) for name in program.procedures], [('k', 'j'), ('k',), ('k',)])
        self.assertEqual([leaves(program, name, 'j') for name in program.procedures], [('j',)] * 3)

    def test_pauses(self):
        program = Program.read(TWO + 'handlers h i def main { a = 0 pause tell k } def p { pause } def h { fresh k } def i { tell j }')
        self.assertEqual([needs(program, name) for name in program.procedures], [None, ('j',), (), ('j',)])
        self.assertEqual(needs(program, 'main', (('carry', 'main', 0, 'k'),)), ('k', 'j'))
        self.assertEqual([leaves(program, name, 'k') for name in program.procedures], [None, ('k',), (), ('k',)])

    def test_loops(self):
        text = 'def main { while { tell k a = 0 } } def p { while { tell k a = 0 carry k } } def q { while { a = a + 1 } fresh k }'
        program = Program.read(TWO + text)
        self.assertEqual([needs(program, name) for name in program.procedures], [None, ('k',), ()])
        self.assertEqual([leaves(program, name, 'k') for name in program.procedures], [None, ('k',), ()])

    def test_the_start_alone(self):
        """A procedure that nothing calls, with runs that no entry of the start leads to."""
        program = Program.read(TWO + 'def main { } def far { b = 2 carry j tell j }')
        self.assertEqual((needs(program, 'far'), leaves(program, 'far', 'j'), leaves(program, 'far', 'k')), (('j',), ('j',), ('k',)))

    def test_kept_from_kept(self):
        """fresh takes the present value of the kept variable in the formula, so that this one is needed."""
        program = Program.read('base a kept k = a kept j = 2*k + a def main { fresh j tell j } def p { fresh k fresh j tell j }')
        self.assertEqual([needs(program, name) for name in program.procedures], [('k',), ()])
        self.assertEqual([leaves(program, 'main', kept) for kept in 'kj'], [('k',), ('k',)])
        self.assertEqual([leaves(program, 'p', kept) for kept in 'kj'], [(), ()])

    def test_what_is_wrong_by_itself_can_be_right_together(self):
        """The uses are of j alone, which is wrong just if k is."""
        program = Program.read('base a kept k = a kept i = a kept j = k - i def main { fresh j tell j }')
        self.assertEqual((needs(program, 'main'), leaves(program, 'main', 'j')), (('k', 'i'), ('k', 'i')))

    def test_copies_of_wrong_values(self):
        program = Program.read('base a b kept k = a def main { b = k } def p { a = k fresh k tell k } def q { a = a - k carry k tell k }')
        self.assertEqual([needs(program, name) for name in program.procedures], [('k',)] * 3)
        self.assertEqual([leaves(program, name, 'k') for name in program.procedures], [('k',), (), ('k',)])

    def test_updates(self):
        program = Program.read(TWO + 'def main { a = 1 call p } def p { tell k tell j }')
        self.assertIsNone(needs(program, 'main'))
        for updates, wanted in [((('carry', 'main', 0, 'k'),), ('k', 'j')), ((('fresh', 'main', 1, 'k'),), ('j',)),
                                ((('fresh', 'p', 0, 'j'), ('fresh', 'p', 0, 'k')), ()), ((('fresh', 'p', 1, 'j'),), None)]:
            self.assertEqual(needs(program, 'main', updates), wanted)
        self.assertEqual(needs(program, 'p', (('carry', 'main', 0, 'k'), ('fresh', 'p', 1, 'j'))), ('k',))
        self.assertEqual(leaves(program, 'main', 'k', (('fresh', 'p', 0, 'j'), ('fresh', 'p', 0, 'k'))), ())

    def test_no_kept_variables(self):
        program = Program.read('base a def main { a = 1 tell a }')
        self.assertEqual(needs(program, 'main'), ())

    def test_the_order_is_that_of_the_program(self):
        program = Program.read('base a kept z = a kept y = a kept x = a def main { tell x tell z tell y }')
        self.assertEqual((needs(program, 'main'), leaves(program, 'main', 'y')), (('z', 'y', 'x'), ('y',)))


class AgainstRuns(unittest.TestCase):
    def check(self, program, name, updates, kept, found):
        """A told set suffices in all runs, and no set without one of its elements does."""
        if found is None:
            self.assertTrue(is_refuted(program, name, program.kept, updates, kept, 6))
            return
        self.assertFalse(is_refuted(program, name, found, updates, kept, 3))
        self.assertEqual(found, tuple(other for other in program.kept if other in found))
        for one in found:
            rest = [other for other in program.kept if other != one]
            self.assertTrue(is_refuted(program, name, rest, updates, kept, 6), (program.tree(), name, updates, kept, found))

    def test_drawn(self):
        draws = Draws(201)
        seen = {}
        for at in range(160):
            program = drawn_program(draws, base=2, kept=1 + at % 3, most_extent=12, depth=2)
            updates = drawn_updates(draws, program, 5, unreached=True)
            name = draws.one_of(program.procedures)
            found = needs(program, name, updates)
            self.check(program, name, updates, None, found)
            seen[found is None or len(found)] = seen.get(found is None or len(found), 0) + 1
            kept = draws.one_of(program.kept)
            left = leaves(program, name, kept, updates)
            self.check(program, name, updates, kept, left)
            seen['left', left is None or len(left)] = seen.get(('left', left is None or len(left)), 0) + 1
        self.assertGreater(min(seen.get(key, 0) for key in (True, 0, 2, ('left', True), ('left', 0), ('left', 1))), 5)

    def test_the_start_and_is_right(self):
        """With entries that are right the start needs all at most; with any entry it needs nothing."""
        draws = Draws(202)
        for at in range(150):
            program = drawn_program(draws, base=2, kept=1 + at % 3, most_extent=25)
            updates = drawn_updates(draws, program, 8)
            found = needs(program, program.start, updates)
            self.assertEqual(found is not None, is_right(program, updates))
            self.assertEqual(found == (), is_right(program, updates, 'any'))
            right, free = (States(program, updates, start).right_at_end() for start in ('right', 'any'))
            for kept in program.kept:
                left = leaves(program, program.start, kept, updates)
                self.assertEqual((left is not None, left == ()), (kept in right, kept in free))


class Errors(unittest.TestCase):
    program = Program.read('base a kept k = a def main { a = 1 call p } def p { tell k }')

    def calls(self, name, kept, updates):
        return [lambda: needs(self.program, name, updates), lambda: leaves(self.program, name, kept, updates),
                lambda: needs(updates=updates, name=name, program=self.program),
                lambda: leaves(kept=kept, updates=updates, program=self.program, name=name)]

    def check(self, calls, error, field, value):
        for call in calls:
            with self.subTest(value=value), self.assertRaises(error) as caught:
                call()
            self.assertIs(type(caught.exception), error)
            self.assertIs(getattr(caught.exception, field), value)

    def test_updates(self):
        for updates in [value for value in strange_values() if type(value) is not tuple] + ['x', [('fresh', 'p', 0, 'k')]]:
            for name, kept in [('p', 'k'), ('q', 'k'), ('p', 'a'), ('q', None)]:
                self.check(self.calls(name, kept, updates), InvalidAction, 'value', updates)
        action = ('fresh', 'p', 0, 'k')
        for updates, at in [((action, action), 1), ((('fresh', 'p', True, 'k'),), 0), ((action, ('carry', 'main', 0, 'k')), 1)]:
            self.check(self.calls('q', 'x', updates), InvalidAction, 'value', updates[at])

    def test_names(self):
        for name in [*strange_values(), 'q', '', 'k', 'a', ('p',)]:
            self.check(self.calls(name, 'k', ()), UnknownProcedure, 'name', name)
            self.check(self.calls(name, 'a', ()), UnknownProcedure, 'name', name)

    def test_kept(self):
        for kept in [*strange_values(), 'a', 'p', '', 'K', ('k',)]:
            self.check(self.calls('p', kept, ())[1::2], UnknownName, 'name', kept)

    def test_nothing_is_changed_and_all_is_new(self):
        tree = self.program.tree()
        self.assertEqual([needs(self.program, 'p') for _ in range(2)], [('k',)] * 2)
        self.assertEqual([leaves(self.program, 'p', 'k') for _ in range(2)], [('k',)] * 2)
        self.assertEqual(self.program.tree(), tree)


if __name__ == '__main__':
    unittest.main()
