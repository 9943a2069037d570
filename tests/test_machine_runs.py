import itertools
import unittest

from byhand import all_runs
from draws import Draws
from freshplaces.errors import InvalidEntry
from freshplaces.machine import Machine
from freshplaces.programs import Program
from programs_drawn import drawn_program, drawn_updates
from strange import strange_values


def choices_of(text, most, *inputs):
    return [choices for choices, _ in Machine(Program.read(text)).runs((0,), most, *inputs)]


class Runs(unittest.TestCase):
    text = 'base a handlers h i def main { while { a = ? } pause } def h { tell a } def i { if { a = a + 5 } }'

    def test_most(self):
        self.assertEqual(choices_of(self.text, 0), [])
        self.assertEqual(choices_of('base a def main { tell a }', 0), [[]])
        self.assertEqual(choices_of(self.text, 1), [])
        self.assertEqual(choices_of(self.text, 2), [[0, 0], [0, 1]])
        self.assertEqual(choices_of(self.text, 3), [[0, 0], [0, 1], [0, 2, 0], [0, 2, 1]])
        self.assertEqual(choices_of(self.text, 4), [[0, 0], [0, 1], [0, 2, 0], [0, 2, 1], [1, 0, 0, 0], [1, 0, 0, 1],
                                                    [1, 1, 0, 0], [1, 1, 0, 1]])

    def test_the_order_of_the_inputs(self):
        text = 'base a def main { a = ? if { a = ? } }'
        self.assertEqual(choices_of(text, 2, (5, -3)), [[5, 0], [-3, 0]])
        self.assertEqual(choices_of(text, 3, (5, -3)), [[5, 0], [5, 1, 5], [5, 1, -3], [-3, 0], [-3, 1, 5], [-3, 1, -3]])
        self.assertEqual(choices_of(text, 3, (9,)), [[9, 0], [9, 1, 9]])
        self.assertEqual(choices_of(text, 3), [[0, 0], [0, 1, 0], [0, 1, 1], [1, 0], [1, 1, 0], [1, 1, 1]])
        self.assertEqual(choices_of('base a def main { a = ? }', 1, (2, 0, 1, -4)), [[2], [0], [1], [-4]])

    def test_outcomes(self):
        machine = Machine(Program.read('base a kept k = a def main { a = ? tell k }'), (('carry', 'main', 0, 'k'),))
        self.assertEqual(list(machine.runs((3,), 1, (4, 7))), [([4], ((4, 4), (4,), 1)), ([7], ((7, 7), (7,), 1))])
        self.assertEqual(list(machine.runs(entry=(3, 9), most=1, inputs=(4,))), [([4], ((4, 10), (10,), 1))])

    def test_walked_twice(self):
        machine = Machine(Program.read(self.text))
        first = machine.runs((0,), 4)
        one = list(itertools.islice(first, 3))
        other = list(machine.runs((0,), 4))
        self.assertEqual(one + list(first), other)
        self.assertEqual(list(machine.runs((0,), 4)), other)

    def test_a_list_that_is_changed(self):
        found = []
        for choices, outcome in Machine(Program.read(self.text)).runs((0,), 4):
            found.append(list(choices))
            choices.clear()
            choices.append(99)
        self.assertEqual(found, choices_of(self.text, 4))

    def test_runs_beyond_the_limit_are_left_out(self):
        text = 'base a def main { while { call p } } def p { ' + 'tell a ' * 50 + '}'
        found = choices_of(text, 90)
        self.assertEqual([len(choices) for choices in found], list(range(79, 0, -1))[::-1])
        self.assertEqual(found[-1], [1] * 78 + [0])

    def test_runs_behind_one_that_is_left_out(self):
        text = 'base a def main { if { } else { while { call p } } } def p { ' + 'tell a ' * 50 + '}'
        self.assertEqual(choices_of(text, 90), [[0] + [1] * many + [0] for many in range(79)][:79] + [[1]])

    def test_against_all_runs(self):
        draws = Draws(91)
        for _ in range(60):
            program = drawn_program(draws, most_extent=25, procedures=5)
            updates = drawn_updates(draws, program)
            machine = Machine(program, updates)
            most, inputs = draws.below(6), draws.one_of([(0, 1), (1, 0), (4,), (3, -2, 0)])
            entry = draws.one_of([(0, 0), (1, 2, 3, 4)])
            wanted = [(run.taken, (run.state(), tuple(run.told), len(run.taken)))
                      for run in all_runs(program, updates, entry, most, inputs)]
            self.assertEqual(list(machine.runs(entry, most, inputs)), wanted)
            for choices, outcome in wanted[:20]:
                self.assertEqual(machine(entry, choices), outcome)

    def test_errors(self):
        machine = Machine(Program.read(self.text + ' def j { }'))
        for entry in [value for value in strange_values()] + [(1, 2), [0], (True,), ('0',)]:
            with self.assertRaises(InvalidEntry) as caught:
                list(machine.runs(entry, 3))
            self.assertIs(caught.exception.value, entry)


if __name__ == '__main__':
    unittest.main()
