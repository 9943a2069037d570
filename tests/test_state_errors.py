import unittest

from freshplaces.errors import InvalidAction, InvalidFaults, UnknownName, UnknownProcedure
from freshplaces.programs import Program
from freshplaces.states import States, is_right, tolerance
from strange import Agreeing, strange_values

PROGRAM = Program.read('base a kept k = a kept j = 2*k def main { a = 1 if { tell k } } def far { tell j }')
STATES = States(PROGRAM)
FIRST, SECOND = ('carry', 'main', 0, 'k'), ('fresh', 'main', 2, 'k')
BAD_UPDATES = [*[value for value in strange_values() if type(value) is not tuple], [FIRST], [], (SECOND, FIRST), (FIRST, FIRST),
               (FIRST, list(SECOND)), ('x',), (FIRST, ('fresh', 'main', 3, 'k')), (('fresh', 'main', True, 'k'),), (None,)]
BAD_STARTS = [*strange_values(), '', 'Right', 'left', 'main', ('right',), ['any'], b'right']
BAD_FAULTS = [*[value for value in strange_values() if type(value) is not int], 4, -1, 10 ** 30, '1', 1.0, (1,), True]


class Building(unittest.TestCase):
    def test_updates(self):
        for updates in BAD_UPDATES:
            for call in (States, is_right, tolerance):
                with self.subTest(updates=updates), self.assertRaises(InvalidAction) as caught:
                    call(PROGRAM, updates)
                if type(updates) is not tuple:
                    self.assertIs(caught.exception.value, updates)
                else:
                    self.assertTrue(any(caught.exception.value is part for part in updates))

    def test_start(self):
        for start in BAD_STARTS:
            for call in (States, is_right, tolerance):
                with self.subTest(start=start), self.assertRaises(UnknownName) as caught:
                    call(PROGRAM, (FIRST,), start)
                self.assertIs(caught.exception.name, start)

    def test_faults(self):
        for faults in BAD_FAULTS:
            for call in (States, is_right):
                with self.subTest(faults=faults), self.assertRaises(InvalidFaults) as caught:
                    call(PROGRAM, (), 'any', faults)
                self.assertIs(caught.exception.value, faults)
                with self.assertRaises(InvalidFaults):
                    call(program=PROGRAM, faults=faults)
        for faults in range(4):
            self.assertIs(is_right(PROGRAM, (FIRST,), 'right', faults), faults == 0)

    def test_two_at_once(self):
        for updates in BAD_UPDATES:
            for start, faults in [('left', 0), ('right', 4), (Agreeing(), True), (None, None)]:
                for call in (States, is_right):
                    with self.assertRaises(InvalidAction):
                        call(PROGRAM, updates, start, faults)
                    with self.assertRaises(InvalidAction):
                        call(faults=faults, start=start, updates=updates, program=PROGRAM)
            with self.assertRaises(InvalidAction):
                tolerance(PROGRAM, updates, 'left')
        for start in BAD_STARTS:
            for call in (States, is_right):
                with self.assertRaises(UnknownName):
                    call(PROGRAM, (), start, 4)
                with self.assertRaises(UnknownName):
                    call(faults=True, start=start, program=PROGRAM)


class Asking(unittest.TestCase):
    two = ['space', 'equations', 'arrived']
    three = ['stale', 'is_right']
    names = [*strange_values(), '', 'k', 'mai', ('main',), ['main']]
    places = [*[value for value in strange_values() if type(value) is not int], -1, 3, 10 ** 30, '0', (0,), 0.0, True, False]
    kept = [*strange_values(), '', 'a', 'main', 'kk', ('k',)]

    def test_procedures(self):
        for name in self.names:
            for method in self.two:
                with self.assertRaises(UnknownProcedure) as caught:
                    getattr(STATES, method)(name, 99)
                self.assertIs(caught.exception.name, name)
            for method in self.three:
                with self.assertRaises(UnknownProcedure) as caught:
                    getattr(STATES, method)(name, 99, 'x')
                self.assertIs(caught.exception.name, name)

    def test_places(self):
        for place in self.places:
            for name in ('main', 'far'):
                for method in self.two:
                    with self.assertRaises(UnknownName) as caught:
                        getattr(STATES, method)(name, place)
                    self.assertIs(caught.exception.name, place)
                for method in self.three:
                    for kept in ('k', 'x', None):
                        with self.assertRaises(UnknownName) as caught:
                            getattr(STATES, method)(name, place, kept)
                        self.assertIs(caught.exception.name, place)
        with self.assertRaises(UnknownName):
            STATES.space('far', 1)

    def test_kept_variables(self):
        for kept in self.kept:
            for name in ('main', 'far'):
                for method in self.three:
                    with self.assertRaises(UnknownName) as caught:
                        getattr(STATES, method)(name, 0, kept)
                    self.assertIs(caught.exception.name, kept)

    def test_what_is_returned_is_new(self):
        for method, arguments in [('equations', ('main', 0)), ('arrived', ('main', 0)), ('uses', ()), ('stale_uses', ()),
                                  ('right_at_end', ())]:
            before = list(getattr(STATES, method)(*arguments))
            found = getattr(STATES, method)(*arguments)
            self.assertIs(type(found), list)
            found.append('x')
            found.reverse()
            self.assertEqual(getattr(STATES, method)(*arguments), before)
        for values, entry, choices, missed in STATES.arrived('main', 0):
            self.assertEqual([type(part) for part in (values, entry, choices, missed)], [tuple] * 4)

    def test_the_methods_stand_in_the_class(self):
        for name in ['space', 'equations', 'arrived', 'stale', 'is_right', 'uses', 'stale_uses', 'right_at_end']:
            self.assertIn(name, vars(States))
        self.assertFalse(STATES == 'states')


if __name__ == '__main__':
    unittest.main()
