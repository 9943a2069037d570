import unittest

from byhand import all_runs, entries
from draws import Draws
from freshplaces.actions import is_action
from freshplaces.carries import all_carried, change_at, changing
from freshplaces.errors import InvalidCarry, UnknownName, UnknownProcedure
from freshplaces.programs import Program
from programs_drawn import drawn_program
from strange import strange_values

PROGRAM = Program.read('''
base a b c
kept k = 3*a - 2*b + 1
kept j = k + 2*b + c
kept n = 7
def zero { if { a = a + b - 4 carry k } else { a = ? } while { b = 2*b - k carry k } c = ? carry j call p tell a }
def p { a = 0 b = ? }
def far { c = c + 1 }
''')


class Changing(unittest.TestCase):
    def test_example_of_the_document(self):
        program = Program.read('base a b kept k = 2*a def main { a = b + 3 a = ? }')
        self.assertEqual((changing(program, 'k'), change_at(program, 'main', 0, 'k'), change_at(program, 'main', 1, 'k')),
                         ([('main', 0, 2), ('main', 1, 2)], ((6, (('a', -2), ('b', 2))), 0), ((0, (('a', -2),)), 2)))

    def test_all_procedures_in_their_order(self):
        self.assertEqual(changing(PROGRAM, 'k'), [('zero', 1, 3), ('zero', 2, 3), ('zero', 4, -2), ('p', 0, 3), ('p', 1, -2)])
        self.assertEqual(changing(program=PROGRAM, kept='j'), [('zero', 1, 3), ('zero', 2, 3), ('zero', 5, 1), ('p', 0, 3),
                                                               ('far', 0, 1)])
        self.assertEqual(changing(PROGRAM, 'n'), [])

    def test_more_than_ten_places(self):
        program = Program.read('base a kept k = a def main { ' + 'a = 1 ' * 12 + '}')
        self.assertEqual(changing(program, 'k'), [('main', place, 1) for place in range(12)])

    def test_the_list_is_new(self):
        changing(PROGRAM, 'k').clear()
        self.assertEqual(len(changing(PROGRAM, 'k')), 5)

    def test_errors(self):
        for value in [*strange_values(), 'a', 'zero', 'K', '', ('k',)]:
            for call in (changing, all_carried):
                with self.assertRaises(UnknownName) as caught:
                    call(PROGRAM, value)
                self.assertIs(caught.exception.name, value)


class ChangeAt(unittest.TestCase):
    def test_sets_and_inputs(self):
        for name, place, kept, wanted in [
                ('zero', 1, 'k', ((-12, (('b', 3),)), 0)), ('zero', 1, 'j', ((-12, (('b', 3),)), 0)),
                ('zero', 2, 'k', ((0, (('a', -3),)), 3)), ('zero', 4, 'k', ((0, (('b', -2), ('k', 2))), 0)),
                ('zero', 5, 'j', ((0, (('c', -1),)), 1)), ('p', 0, 'j', ((0, (('a', -3),)), 0)),
                ('p', 1, 'k', ((0, (('b', 2),)), -2)), ('far', 0, 'j', ((1, ()), 0))]:
            self.assertEqual(change_at(PROGRAM, name, place, kept), wanted)
        self.assertEqual(change_at(program=PROGRAM, name='far', place=0, kept='j'), ((1, ()), 0))

    def test_places_where_nothing_can_be_carried(self):
        for name, place, kept in [('zero', 0, 'k'), ('zero', 3, 'k'), ('zero', 4, 'j'), ('zero', 5, 'k'), ('zero', 6, 'k'),
                                  ('zero', 7, 'k'), ('p', 1, 'j'), ('p', 2, 'k'), ('zero', -1, 'k'), ('zero', 8, 'k'),
                                  ('p', 0, 'n'), ('p', 0, 'a'), ('p', 0, 'q'), ('p', False, 'k'), ('p', '0', 'k'), ('p', (0,), 'k')]:
            with self.subTest(place=place), self.assertRaises(InvalidCarry) as caught:
                change_at(PROGRAM, name, place, kept)
            self.assertIs(caught.exception.place, place)

    def test_any_value(self):
        for value in [*strange_values(), 'k', 'q', '']:
            with self.assertRaises(UnknownProcedure) as caught:
                change_at(PROGRAM, value, value, value)
            self.assertIs(caught.exception.name, value)
            with self.assertRaises(InvalidCarry) as caught:
                change_at(PROGRAM, 'p', value if value != 0 else 9, value)
            if not isinstance(value, str) or value != 'k':
                with self.assertRaises(InvalidCarry) as caught:
                    change_at(PROGRAM, 'p', 0, value)
                self.assertEqual(caught.exception.place, 0)

    def test_what_is_added_in_runs(self):
        """The kept variable changes at each set and input as change_at says, if it is carried there."""
        draws = Draws(71)
        for _ in range(40):
            program = drawn_program(draws, base=3, kept=3, most_extent=20)
            for kept in program.kept:
                updates = all_carried(program, kept)
                for run in list(all_runs(program, updates, (1, -2, 5, 3, 0, 7), 4, (2, -3)))[:20]:
                    self.check(program, kept, run)

    def check(self, program, kept, run):
        states = run.arrivals + [(None, None, run.row(), tuple(run.taken), ())]
        for (name, place, row, choices, _), (_, _, behind, more, _) in zip(states, states[1:]):
            if (name, place) not in [spot[:2] for spot in changing(program, kept)]:
                continue
            (constant, terms), factor = change_at(program, name, place, kept)
            values = dict(zip(program.base + program.kept, row[1:]))
            taken = more[len(choices)] if len(more) > len(choices) else 0
            added = constant + sum(times * values[other] for other, times in terms) + factor * taken
            at = 1 + (program.base + program.kept).index(kept)
            self.assertEqual(behind[at] - row[at], added)


class AllCarried(unittest.TestCase):
    def test_updates(self):
        self.assertEqual(all_carried(PROGRAM, 'k'), (('carry', 'p', 0, 'k'), ('carry', 'p', 1, 'k'), ('carry', 'zero', 2, 'k')))
        self.assertEqual(all_carried(program=PROGRAM, kept='j'),
                         (('carry', 'far', 0, 'j'), ('carry', 'p', 0, 'j'), ('carry', 'zero', 1, 'j'), ('carry', 'zero', 2, 'j')))
        self.assertEqual(all_carried(PROGRAM, 'n'), ())
        for action in all_carried(PROGRAM, 'k'):
            self.assertTrue(is_action(PROGRAM, action))

    def test_right_at_each_place_of_each_run_without_fresh(self):
        draws = Draws(72)
        for _ in range(40):
            program = drawn_program(draws, base=2, kept=3, most_extent=20, fresh=False)
            for kept in program.kept:
                updates = all_carried(program, kept)
                at = 1 + (program.base + program.kept).index(kept)
                for entry in list(entries(program, 'right'))[::4]:
                    for run in list(all_runs(program, updates, entry, 4, (2, -3)))[:20]:
                        for _, _, row, _, _ in run.arrivals:
                            run.values = dict(zip(program.base + program.kept, row[1:]))
                            self.assertEqual(row[at], run.correct(kept))


if __name__ == '__main__':
    unittest.main()
