import unittest

from freshplaces.errors import InvalidAction, InvalidChoices, InvalidEntry, LimitExceeded
from freshplaces.machine import Machine
from freshplaces.programs import Program
from strange import Agreeing, strange_values

PROGRAM = Program.read('base a b kept k = a def main { a = ? while { tell k } }')
ENTRIES = [*strange_values(), (1,), (1, 2, 3, 4), (True, 2), (1, False, 3), [1, 2], [1, 2, 3], (1, '2'), (1, 2.0), ((1, 2),),
           (1, None, 3), {1: 2}, '12', (Agreeing(), 1)]
CHOICES = [*[value for value in strange_values() if value != [] or isinstance(value, Agreeing)], (1, 2), (0,), [True], [1, False],
           [1, None], [1.0], ['1'], [[1]], [(1,)], {1: 1}, [Agreeing()]]
MISSED = [*[value for value in strange_values() if value != () or isinstance(value, Agreeing)], [0], [0, 1], (-1,), (-1, 0), (1, 0),
          (0, 0), (0, 2, 2), (0, True), (False,), (0, 1.0), ('0',), (0, None), ((0,),), (0, 3, 2), (Agreeing(),)]


class Arguments(unittest.TestCase):
    def setUp(self):
        self.machine = Machine(PROGRAM, (('carry', 'main', 0, 'k'),))
        self.with_missed = [self.machine, self.machine.stale, self.machine.work]
        self.calls = self.with_missed + [self.machine.visits]

    def test_entries(self):
        for entry in ENTRIES:
            for call in self.calls:
                with self.subTest(entry=entry), self.assertRaises(InvalidEntry) as caught:
                    call(entry, [])
                self.assertIs(caught.exception.value, entry)
        self.assertEqual([self.machine(entry, [])[0] for entry in [(1, 2), (1, 2, 3)]], [(0, 2, 0), (0, 2, 2)])

    def test_programs_without_kept_variables(self):
        machine = Machine(Program.read('base a b def main { }'))
        self.assertEqual(machine((1, 2), []), ((1, 2), (), 0))
        for entry in [(1,), (1, 2, 3), ()]:
            with self.assertRaises(InvalidEntry):
                machine(entry, [])

    def test_choices(self):
        for choices in CHOICES:
            for call in self.calls:
                with self.subTest(choices=choices), self.assertRaises(InvalidChoices) as caught:
                    call((1, 2), choices)
                self.assertIs(caught.exception.value, choices)

    def test_missed(self):
        for missed in MISSED:
            for call in self.with_missed:
                with self.subTest(missed=missed), self.assertRaises(InvalidChoices) as caught:
                    call((1, 2), [], missed)
                self.assertIs(caught.exception.value, missed)
        self.assertEqual(self.machine((1, 2), [5], (0, 7, 10 ** 40)), ((5, 2, 1), (), 2))

    def test_limit(self):
        for call in self.calls:
            with self.assertRaises(LimitExceeded) as caught:
                call((1, 2), [1] * 5000)
            self.assertEqual(caught.exception.word, 'steps')

    def test_two_at_once(self):
        too_long = [1] * 5000
        for entry, choices, missed, error, value in [
                ((1,), (1,), [0], InvalidEntry, (1,)), ((1,), too_long, [0], InvalidEntry, (1,)),
                ((1,), [], [0], InvalidEntry, (1,)), ((1,), (1,), (), InvalidEntry, (1,)),
                ((1, 2), (1,), [0], InvalidChoices, (1,)), ((1, 2), [True] * 5000, [0], InvalidChoices, [True] * 5000),
                ((1, 2), too_long, [0], InvalidChoices, [0]), ((1, 2), too_long, (1, 1), InvalidChoices, (1, 1))]:
            for call in self.with_missed:
                with self.assertRaises(error) as caught:
                    call(entry, choices, missed)
                self.assertEqual(caught.exception.value, value)

    def test_a_machine_is_as_before_behind_an_error(self):
        before = self.machine((1, 2), [5, 1])
        for entry, choices, missed in [((1,), [], ()), ((1, 2), (1,), ()), ((1, 2), [], [0]), ((1, 2), [1] * 5000, ())]:
            with self.assertRaises((ValueError, RuntimeError)):
                self.machine(entry, choices, missed)
        self.assertEqual((self.machine((1, 2), [5, 1]), self.machine.updates), (before, (('carry', 'main', 0, 'k'),)))


class NoUpdates(unittest.TestCase):
    first, second = ('carry', 'main', 0, 'k'), ('fresh', 'main', 1, 'k')

    def test_what_is_no_tuple(self):
        for updates in [value for value in strange_values() if type(value) is not tuple] + [[self.first], 'x', {self.first: 1}]:
            with self.assertRaises(InvalidAction) as caught:
                Machine(PROGRAM, updates)
            self.assertIs(caught.exception.value, updates)

    def test_the_first_wrong_element(self):
        for updates, at in [((self.second, self.first), 1), ((self.first, self.first), 1), ((self.first, list(self.second)), 1),
                            ((self.first, self.second, None), 2), (('fresh', 'main', 1, 'k'), 0),
                            ((self.first, ('fresh', 'main', 3, 'k'), 5), 1), ((('carry', 'main', 0, 'j'),), 0),
                            ((self.first, self.second, self.first, 'x'), 2), ((self.first, Agreeing()), 1),
                            ((('fresh', 'main', True, 'k'),), 0)]:
            with self.assertRaises(InvalidAction) as caught:
                Machine(PROGRAM, updates)
            self.assertIs(caught.exception.value, updates[at])
        for value in strange_values():
            with self.assertRaises(InvalidAction) as caught:
                Machine(PROGRAM, (self.first, value))
            self.assertIs(caught.exception.value, value)


if __name__ == '__main__':
    unittest.main()
