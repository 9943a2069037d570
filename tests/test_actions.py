import unittest

from byhand import ByHand, all_runs
from draws import Draws
from freshplaces.actions import anew, candidates, cost, is_action, size_of_action, updated
from freshplaces.errors import InvalidAction, InvalidWeights, TooLarge
from freshplaces.machine import Machine
from freshplaces.programs import Program
from freshplaces.states import is_right
from programs_drawn import drawn_program, drawn_updates
from strange import Agreeing, strange_values

TEXT = '''
base a b c
kept k = a + 2*b + 5
kept j = 2*k - b
kept n = c
handlers h
def main { a = ? while { pause b = a + 1 carry j } if { call p } else { tell j } c = 1 carry n }
def p { b = ? carry k fresh n }
def h { a = 3 }
def far { a = 1 tell k }
'''
PROGRAM = Program.read(TEXT)
# What can be carried at each set and input that does not carry it already.
CARRIES = [('carry', 'far', 0, 'j'), ('carry', 'far', 0, 'k'), ('carry', 'h', 0, 'j'), ('carry', 'h', 0, 'k'),
           ('carry', 'main', 0, 'j'), ('carry', 'main', 0, 'k'), ('carry', 'main', 3, 'k'), ('carry', 'p', 0, 'j')]
PLACES = {'main': 8, 'p': 2, 'h': 1, 'far': 2}
FRESH = [('fresh', name, place, kept) for name in PLACES for place in range(PLACES[name]) for kept in 'kjn']
ACTIONS = sorted(CARRIES + FRESH)


class IsAction(unittest.TestCase):
    def test_every_action(self):
        for action in ACTIONS:
            self.assertIs(is_action(PROGRAM, action), True, action)
        self.assertIs(is_action(program=PROGRAM, value=ACTIONS[0]), True)

    def test_just_these(self):
        found = [(word, name, place, kept) for word in ('carry', 'fresh', 'call', 'set', '')
                 for name in ('main', 'p', 'h', 'far', 'k', 'q') for place in range(-2, 10)
                 for kept in ('k', 'j', 'n', 'a', 'b', 'c', 'main', '')
                 if is_action(PROGRAM, (word, name, place, kept))]
        self.assertEqual(sorted(found), ACTIONS)

    def test_values_that_differ_in_one_part(self):
        for action in ACTIONS:
            for at, part in enumerate(action):
                others = [*strange_values(), 'K', 'carried', 'call', part * 2 if isinstance(part, str) else part + 9, (part,)]
                if at == 2:
                    others += [True, False, str(part), part - 99]
                for other in others:
                    if at == 2 and type(other) is int and 0 <= other < PLACES[action[1]] and action[0] == 'fresh':
                        continue
                    changed = action[:at] + (other,) + action[at + 1:]
                    if at == 2 and type(other) is int and changed in ACTIONS:
                        continue
                    self.assertIs(is_action(PROGRAM, changed), False, changed)
            for changed in [list(action), action[:3], action[1:], action + ('k',), action + ((),), (action,), str(action)]:
                self.assertIs(is_action(PROGRAM, changed), False, changed)

    def test_carry_of_what_is_carried_or_does_not_depend(self):
        for action in [('carry', 'main', 3, 'j'), ('carry', 'main', 7, 'n'), ('carry', 'p', 0, 'k'), ('carry', 'main', 0, 'n'),
                       ('carry', 'main', 7, 'k'), ('carry', 'main', 1, 'k'), ('carry', 'p', 1, 'n'), ('carry', 'main', 2, 'k')]:
            self.assertIs(is_action(PROGRAM, action), False, action)

    def test_dependence_that_cancels_out(self):
        program = Program.read('base a b kept k = a + b kept j = k - a def main { a = 1 b = 1 }')
        self.assertEqual([action for action in candidates(program) if action[0] == 'carry'],
                         [('carry', 'main', 0, 'k'), ('carry', 'main', 1, 'j'), ('carry', 'main', 1, 'k')])

    def test_any_value(self):
        for value in [*strange_values(), 'fresh', ('fresh',), (), ((), (), (), ()), ([], [], [], []),
                      (Agreeing(), Agreeing(), Agreeing(), Agreeing())]:
            self.assertIs(is_action(PROGRAM, value), False)


class Candidates(unittest.TestCase):
    def test_example_of_the_document(self):
        program = Program.read('base a kept k = a def main { a = a + 1 tell k }')
        self.assertEqual((candidates(program), cost(program, (('carry', 'main', 0, 'k'),), {('main', 0): 5})),
                         ([('carry', 'main', 0, 'k'), ('fresh', 'main', 0, 'k'), ('fresh', 'main', 1, 'k')], 10))

    def test_only_of_what_is_reached(self):
        self.assertEqual(candidates(PROGRAM), [action for action in ACTIONS if action[1] != 'far'])
        self.assertEqual(candidates(program=PROGRAM), candidates(PROGRAM))
        program = Program.read('base a kept k = a handlers h def main { call p } def p { tell a } def h { a = 1 }')
        self.assertEqual(candidates(program), [('fresh', 'main', 0, 'k'), ('fresh', 'p', 0, 'k')])

    def test_ascending_whatever_the_order_of_the_names(self):
        program = Program.read('base a kept z = a kept b = a def zero { a = 1 call one } def one { a = ? }')
        found = candidates(program)
        self.assertEqual(found, sorted(found))
        self.assertEqual(found[0], ('carry', 'one', 0, 'b'))
        self.assertEqual(len(found), 4 + 6)

    def test_none(self):
        for text in ['base a kept k = a def main { }', 'base a def main { a = 1 }', 'base a kept k = a def main { } def p { a = 1 }']:
            self.assertEqual(candidates(Program.read(text)), [])

    def test_the_list_is_new(self):
        candidates(PROGRAM).clear()
        self.assertEqual(len(candidates(PROGRAM)), len([action for action in ACTIONS if action[1] != 'far']))

    def test_ten_places_are_in_the_order_of_numbers(self):
        program = Program.read('base a kept k = a def main { ' + 'tell a ' * 12 + '}')
        self.assertEqual(candidates(program), [('fresh', 'main', place, 'k') for place in range(12)])


class Sizes(unittest.TestCase):
    def test_sizes(self):
        for action, size in [(('carry', 'main', 3, 'k'), 2), (('carry', 'h', 0, 'j'), 2), (('carry', 'main', 0, 'k'), 3),
                             (('carry', 'p', 0, 'j'), 3), (('fresh', 'main', 0, 'k'), 3), (('fresh', 'far', 1, 'j'), 3),
                             (('fresh', 'main', 7, 'n'), 2)]:
            self.assertEqual(size_of_action(PROGRAM, action), size)
        self.assertEqual(size_of_action(program=PROGRAM, action=ACTIONS[0]), 2)

    def test_the_terms_of_the_formula_count_not_the_unfolded_ones(self):
        program = Program.read('base a b c kept k = a + b + c + 7 kept j = 2*k kept m = 4 def main { tell m }')
        self.assertEqual([size_of_action(program, ('fresh', 'main', 0, kept)) for kept in 'kjm'], [4, 2, 1])

    def test_errors(self):
        for value in [*strange_values(), 'fresh', ('fresh', 'main', 99, 'k'), ('carry', 'main', 3, 'j'), ['fresh', 'main', 0, 'k'],
                      ('fresh', 'main', True, 'k')]:
            with self.assertRaises(InvalidAction) as caught:
                size_of_action(PROGRAM, value)
            self.assertIs(caught.exception.value, value)


class Costs(unittest.TestCase):
    updates = (('carry', 'main', 0, 'k'), ('carry', 'main', 3, 'k'), ('fresh', 'main', 3, 'j'), ('fresh', 'p', 1, 'n'))

    def test_costs(self):
        for weights, wanted in [(None, 3 + 2 + 3 + 2), ({}, 10), ({('main', 0): 4}, 12 + 2 + 3 + 2), ({('main', 3): 0}, 5),
                                ({('main', 0): 0, ('main', 3): 0, ('p', 1): 0}, 0), ({('far', 1): 9, ('h', 0): 3}, 10),
                                ({('main', 3): 10 ** 30, ('p', 1): 7}, 3 + 5 * 10 ** 30 + 14)]:
            self.assertEqual(cost(PROGRAM, self.updates, weights), wanted)
        self.assertEqual(cost(PROGRAM, ()), 0)
        self.assertEqual(cost(program=PROGRAM, updates=self.updates, weights={('main', 0): 2}), 13)

    def test_weights_are_not_changed(self):
        weights = {('main', 0): 4}
        cost(PROGRAM, self.updates, weights)
        self.assertEqual(weights, {('main', 0): 4})

    def test_what_are_no_weights(self):
        for value in [*[value for value in strange_values() if value is not None and value != {}], {1: 1}, {'main': 1},
                      {('main',): 1}, {('main', 0, 0): 1}, {('main', 8): 1}, {('main', -1): 1}, {('main', True): 1},
                      {('main', '0'): 1}, {('k', 0): 1}, {('q', 0): 1}, {(None, 0): 1}, {('main', 0): -1}, {('main', 0): True},
                      {('main', 0): None}, {('main', 0): 1.0}, {('main', 0): '1'}, {('main', 0): 1, ('p', 2): 1},
                      {('main', (0,)): 1}, {('main', 0.0): 1}, [(('main', 0), 1)], (('main', 0), 1)]:
            if isinstance(value, Agreeing):
                continue
            with self.subTest(value=value), self.assertRaises(InvalidWeights) as caught:
                cost(PROGRAM, self.updates, value)
            self.assertIs(caught.exception.value, value)
        value = Agreeing()
        with self.assertRaises(InvalidWeights) as caught:
            cost(PROGRAM, self.updates, value)
        self.assertIs(caught.exception.value, value)

    def test_updates_come_first(self):
        for updates in [[], None, ('x',), self.updates[::-1]]:
            for weights in [[], {('main', 8): 1}, True]:
                with self.assertRaises(InvalidAction):
                    cost(PROGRAM, updates, weights)
        with self.assertRaises(InvalidWeights):
            cost(PROGRAM, (), {('main', 8): 1})


class Updated(unittest.TestCase):
    def test_several_at_one_place(self):
        program = Program.read('base a kept z = a kept y = z kept b = a def main { a = 1 carry y while { a = ? } }')
        before = program.tree()
        updates = (('carry', 'main', 0, 'b'), ('carry', 'main', 0, 'z'), ('carry', 'main', 2, 'b'), ('fresh', 'main', 0, 'b'),
                   ('fresh', 'main', 0, 'y'), ('fresh', 'main', 0, 'z'), ('fresh', 'main', 1, 'b'), ('fresh', 'main', 2, 'y'))
        self.assertEqual(updated(program, updates), Program.read(
            'base a kept z = a kept y = z kept b = a def main { fresh z fresh y fresh b a = 1 carry z, y, b '
            'fresh b while { fresh y a = ? carry b } }'))
        self.assertEqual(program.tree(), before)

    def test_blocks_and_procedures(self):
        updates = tuple(sorted([('fresh', 'main', 6, 'k'), ('fresh', 'main', 5, 'n'), ('fresh', 'far', 1, 'j'),
                                ('fresh', 'h', 0, 'k'), ('carry', 'h', 0, 'j'), ('fresh', 'main', 2, 'j')]))
        self.assertEqual(updated(program=PROGRAM, updates=updates), Program.read(
            TEXT.replace('pause', 'fresh j pause').replace('call p', 'fresh n call p').replace('else { tell j', 'else { fresh k tell j')
            .replace('a = 3', 'fresh k a = 3 carry j').replace('a = 1 tell k', 'a = 1 fresh j tell k')))

    def test_without_updates(self):
        self.assertEqual(updated(PROGRAM, ()), PROGRAM)

    def test_carried_stand_in_the_order_of_the_program_everywhere(self):
        program = Program.read('base a kept z = a kept b = a def main { a = 1 carry b, z a = ? carry b, z }')
        self.assertEqual(updated(program, ()), Program.read('base a kept z = a kept b = a '
                                                            'def main { a = 1 carry z, b a = ? carry z, b }'))

    def test_too_large(self):
        program = Program.read('base a kept k = a def main { ' + 'tell a ' * 59 + '}')
        every = tuple(('fresh', 'main', place, 'k') for place in range(59))
        self.assertEqual(len(list(updated(program, every[:1]).statements('main'))), 60)
        for updates in (every[:2], every):
            with self.assertRaises(TooLarge) as caught:
                updated(program, updates)
            self.assertEqual(caught.exception.word, 'statements')

    def test_too_large_by_calls(self):
        program = Program.read('base a kept k = a def main { ' + 'call p ' * 39 + '} def p { ' + 'tell a ' * 9 + '}')
        self.assertEqual(program.extent('main'), 390)
        self.assertEqual(updated(program, tuple(('fresh', 'main', place, 'k') for place in range(10))).extent('main'), 400)
        for updates in [(('fresh', 'p', 0, 'k'),), tuple(('fresh', 'main', place, 'k') for place in range(11))]:
            with self.assertRaises(TooLarge) as caught:
                updated(program, updates)
            self.assertEqual(caught.exception.word, 'calls')

    def test_the_same_runs_and_the_same_work(self):
        draws = Draws(61)
        for _ in range(40):
            program = drawn_program(draws, most_extent=25)
            updates = drawn_updates(draws, program, 6)
            written = updated(program, updates)
            for entry in [(0, 0), (2, -3), (1, 2, 3, 4)]:
                for run in list(all_runs(program, updates, entry, 4))[:60]:
                    other = ByHand(written, (), entry, run.taken)
                    self.assertEqual((run.state(), run.told, run.work, len(run.taken), [use[2] for use in run.stale]),
                                     (other.state(), other.told, other.work, len(other.taken), [use[2] for use in other.stale]))
                    machine = Machine(written)
                    self.assertEqual(machine(entry, run.taken), Machine(program, updates)(entry, run.taken))
                    self.assertEqual(machine.work(entry, run.taken), run.work)


class Anew(unittest.TestCase):
    def test_statements(self):
        self.assertEqual(anew(PROGRAM), Program.read('''
base a b c
handlers h
def main { a = ? while { pause b = a + 1 } if { call p } else { tell 2*a + 3*b + 10 } c = 1 }
def p { b = ? }
def h { a = 3 }
def far { a = 1 tell a + 2*b + 5 }
'''))
        self.assertEqual(anew(program=PROGRAM), anew(PROGRAM))

    def test_kept_over_kept(self):
        program = Program.read('base a b kept k = a - b kept j = 2*k + b + 1 kept m = j - 2*a '
                               'def main { a = 3*m + k + a carry k fresh j fresh m tell j - k if { fresh k } }')
        self.assertEqual(anew(program), Program.read('base a b def main { a = 2*a - 4*b + 3 tell a + 1 if { } }'))
        self.assertEqual(program.kept, ('k', 'j', 'm'))

    def test_numbers_that_grow_too_large(self):
        text = 'base a b kept k = 999999*a kept j = 1000000*k {} def main { tell {} }'
        with self.assertRaises(TooLarge) as caught:
            anew(Program.read(text.replace('{}', '', 1).replace('{}', '1000001*j', 1)))
        self.assertEqual(caught.exception.word, 'numbers')
        self.assertEqual(anew(Program.read(text.replace('{}', '', 1).replace('{}', 'j', 1))),
                         Program.read('base a b def main { tell 999999000000*a }'))

    def test_numbers_that_are_too_large_on_the_way_alone(self):
        program = Program.read('base a b kept k = 1000000*a kept j = 1000000*k + 1000000*b kept m = j - 1000000*k '
                               'def main { tell m }')
        self.assertEqual(anew(program), Program.read('base a b def main { tell 1000000*b }'))

    def test_a_large_formula_that_is_not_read(self):
        program = Program.read('base a kept k = 1000000*a kept j = 1000000*k def main { tell k fresh j }')
        self.assertEqual(anew(program), Program.read('base a def main { tell 1000000*a }'))

    def test_right_programs_tell_the_same(self):
        draws = Draws(62)
        tried = 0
        while tried < 25:
            program = drawn_program(draws, most_extent=20)
            updates = drawn_updates(draws, program, 8)
            if not program.uses(program.start) or not is_right(program, updates):
                continue
            tried += 1
            plain = anew(program)
            for entry in [(0, 0), (2, -3), (1, 5)]:
                for choices, (values, told, used) in list(Machine(program, updates).runs(entry, 4))[:60]:
                    self.assertEqual((values[:2], told, used), Machine(plain)(entry, choices))


class NoUpdates(unittest.TestCase):
    def test_errors(self):
        first, second = ('carry', 'main', 0, 'k'), ('fresh', 'main', 1, 'k')
        for updates, value in [((second, first), first), ((first, first), first), ((first, 'x'), 'x'), (('x', first), 'x'),
                               ((first, list(second)), list(second)), ((None,), None), ((first, ('fresh', 'main', 99, 'k')),
                                                                                       ('fresh', 'main', 99, 'k')),
                               ((('fresh', 'main', True, 'k'),), ('fresh', 'main', True, 'k'))]:
            for call in (updated, cost):
                with self.subTest(updates=updates), self.assertRaises(InvalidAction) as caught:
                    call(PROGRAM, updates)
                self.assertEqual(caught.exception.value, value)
        for updates in [value for value in strange_values() if type(value) is not tuple] + [[first], first[0], {first: 1}]:
            for call in (updated, cost):
                with self.assertRaises(InvalidAction) as caught:
                    call(PROGRAM, updates)
                self.assertIs(caught.exception.value, updates)


if __name__ == '__main__':
    unittest.main()
