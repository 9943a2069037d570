import unittest

from byhand import ByHand, all_runs, entries, runs_with_faults
from draws import Draws
from freshplaces.actions import updated
from freshplaces.machine import Machine
from freshplaces.programs import Program
from freshplaces.rows import product
from freshplaces.spaces import Space
from freshplaces.states import States, is_right, tolerance
from programs_drawn import drawn_program, drawn_updates

ROUTE = 'base a kept k = a def main { a = 1 tell k } def far { tell k a = 2 tell k }'


def places_of(program):
    return [(name, place) for name in program.procedures for place, _ in program.statements(name)]


def correct_at(program, row, kept):
    run = ByHand(program, (), row[1:], ())
    run.values = dict(zip(program.base + program.kept, row[1:]))
    return run.correct(kept)


def is_right_in(program, row, kept):
    return row[1 + (program.base + program.kept).index(kept)] == correct_at(program, row, kept)


class Examples(unittest.TestCase):
    def test_of_the_document(self):
        program = Program.read('base x y kept k = x + y def main { x = x + 1 y = y - 1 tell k x = ? tell k }')
        states = States(program)
        other = Program.read('base x kept k = x def main { x = 1 tell x tell k }')
        far = tolerance(other, (('carry', 'main', 0, 'k'), ('fresh', 'main', 1, 'k')))
        self.assertEqual((states.is_right('main', 2, 'k'), states.stale_uses(), len(states.space('main', 2)), far),
                         (True, [('main', 4, 'k')], 3, 1))


class ByHandWritten(unittest.TestCase):
    def test_entries(self):
        program = Program.read('base a b kept k = a + 2*b + 1 def main { tell k }')
        right, free = States(program), States(program, start='any')
        self.assertEqual(right.space('main', 0), Space(4, [(1, 0, 0, 1), (0, 1, 0, 1), (0, 0, 1, 2)]))
        self.assertEqual(free.space('main', 0), Space(4, [(1, 0, 0, 0), (0, 1, 0, 0), (0, 0, 1, 0), (0, 0, 0, 1)]))
        self.assertEqual([abs(number) for number in right.equations('main', 0)[0]], [1, 1, 2, 1])
        self.assertEqual((len(right.equations('main', 0)), free.equations('main', 0)), (1, []))
        self.assertEqual((right.stale_uses(), free.stale_uses()), ([], [('main', 0, 'k')]))
        self.assertEqual((right.right_at_end(), free.right_at_end()), (['k'], []))
        entry, choices, missed = free.stale('main', 0, 'k')
        self.assertEqual((len(entry), choices, missed), (3, (), ()))

    def test_constants_and_loops(self):
        program = Program.read('base a b def main { a = 0 b = 0 while { a = a + 2 b = b + 3 } tell a }')
        states = States(program)
        self.assertEqual(states.space('main', 1), Space(3, [(1, 0, 0), (0, 0, 1)]))
        self.assertEqual(states.space('main', 2), Space(3, [(1, 0, 0)]))
        self.assertEqual(states.space('main', 3), Space(3, [(1, 0, 0), (0, 2, 3)]))
        self.assertEqual(states.space('main', 4), Space(3, [(1, 2, 0), (0, 2, 3)]))
        self.assertEqual(states.space('main', 5), Space(3, [(1, 0, 0), (0, 2, 3)]))

    def test_a_while_is_a_place_before_its_first_choice_alone(self):
        program = Program.read('base a kept k = a def main { a = 0 while { a = a + 1 } }')
        self.assertEqual(States(program).space('main', 1), Space(3, [(1, 0, 0), (0, 0, 1)]))
        states = States(program, (('fresh', 'main', 1, 'k'),))
        self.assertEqual(states.space('main', 1), Space(3, [(1, 0, 0)]))
        self.assertEqual(states.space('main', 2), Space(3, [(1, 0, 0), (0, 1, 0)]))

    def test_an_if_joins(self):
        program = Program.read('base a kept k = a def main { if { a = a + 1 fresh k } else { a = a - 1 } tell k }')
        states = States(program)
        self.assertEqual((states.stale_uses(), states.right_at_end()), ([('main', 4, 'k')], []))
        self.assertEqual(States(program, (('carry', 'main', 3, 'k'),)).right_at_end(), ['k'])

    def test_a_procedure_that_is_called_several_times(self):
        program = Program.read('base a b kept k = a def main { a = 1 b = 1 call p a = 2 b = 4 call p tell k } def p { tell a }')
        states = States(program)
        self.assertEqual(states.space('p', 0), Space(4, [(1, 1, 1, 0), (1, 2, 4, 0), (0, 0, 0, 1)]))
        self.assertEqual(len(states.space('main', 3)), 2)

    def test_each_call_goes_back_to_where_it_was_called(self):
        """A way from one call to behind another one is no run."""
        program = Program.read('base a b kept k = a def main { a = 1 fresh k call p tell k a = 2 call p tell b } def p { b = 1 }')
        self.assertEqual(States(program).stale_uses(), [])
        self.assertEqual(States(program).space('main', 3), Space(4, [(1, 1, 1, 1)]))

    def test_pauses(self):
        text = 'base a kept k = a handlers h i def main { pause tell k } def h { a = 5 tell k fresh k } def i { a = a + 1 carry k }'
        program = Program.read(text)
        self.assertEqual(States(program).stale_uses(), [('h', 1, 'k')])
        self.assertEqual(States(Program.read(text.replace('fresh k', ''))).stale_uses(), [('main', 1, 'k'), ('h', 1, 'k')])
        self.assertEqual(States(Program.read(text.replace(' carry k', ''))).stale('main', 1, 'k')[1], (2,))

    def test_inputs(self):
        program = Program.read('base a b kept k = a + b def main { a = ? carry k b = ? tell k }')
        states = States(program)
        self.assertEqual(states.stale_uses(), [('main', 2, 'k')])
        self.assertEqual(len(states.space('main', 2)), 4)
        self.assertEqual(states.space('main', 1), Space(4, [(1, 0, 0, 0), (0, 1, 0, 1), (0, 0, 1, 1)]))

    def test_right_by_an_equation(self):
        program = Program.read('base a b kept k = a + b def main { while { a = a + 2 b = b - 2 } tell k a = b b = a tell k }')
        self.assertEqual(States(program).stale_uses(), [('main', 6, 'k')])
        zero = Program.read('base a b kept k = a - b def main { b = a fresh k a = 7 b = 7 tell k }')
        self.assertTrue(is_right(zero))

    def test_procedures_that_are_not_reached(self):
        states = States(Program.read(ROUTE), (('carry', 'main', 0, 'k'),))
        for place in range(3):
            self.assertEqual(states.space('far', place), Space(3, []))
            self.assertEqual(Space(3, states.equations('far', place)), Space(3, [(1, 0, 0), (0, 1, 0), (0, 0, 1)]))
            self.assertEqual(len(states.equations('far', place)), 3)
            self.assertEqual((states.arrived('far', place), states.stale('far', place, 'k'), states.is_right('far', place, 'k')),
                             ([], None, True))
        self.assertEqual((states.uses(), states.stale_uses()), ([('main', 1, 'k')], []))

    def test_uses_in_the_order_of_the_procedures(self):
        program = Program.read('base a kept z = a kept b = a handlers y def main { call x pause tell b + z a = b } '
                               'def far { tell z } def x { tell z } def y { a = z + b }')
        states = States(program, start='any')
        wanted = [('main', 2, 'z'), ('main', 2, 'b'), ('main', 3, 'b'), ('x', 0, 'z'), ('y', 0, 'z'), ('y', 0, 'b')]
        self.assertEqual((states.uses(), states.stale_uses()), (wanted, wanted))
        self.assertEqual(States(program).stale_uses(), [('main', 2, 'z'), ('main', 2, 'b'), ('main', 3, 'b')])
        self.assertEqual(states.right_at_end(), ['b'])

    def test_right_at_end(self):
        program = Program.read('base a b kept z = a kept b2 = b kept c = z + b def main { a = 1 fresh z }')
        self.assertEqual(States(program).right_at_end(), ['z', 'b2'])
        self.assertEqual(States(program, (('carry', 'main', 0, 'c'),)).right_at_end(), ['z', 'b2', 'c'])
        self.assertEqual(States(Program.read('base a kept k = a def main { }')).right_at_end(), ['k'])
        self.assertEqual(States(Program.read('base a def main { }')).right_at_end(), [])


class Faults(unittest.TestCase):
    text = 'base a kept k = a def main { a = a + 1 tell k tell k tell k tell k }'
    updates = (('carry', 'main', 0, 'k'),) + tuple(('fresh', 'main', place, 'k') for place in range(1, 4))

    def test_stale_uses(self):
        program = Program.read(self.text)
        for faults, uses in [(0, []), (1, []), (2, [('main', 1, 'k')]), (3, [('main', 1, 'k'), ('main', 2, 'k')])]:
            states = States(program, self.updates, faults=faults)
            self.assertEqual(states.stale_uses(), uses)
            self.assertEqual(is_right(program, self.updates, faults=faults), not uses)
        run = States(program, self.updates, 'right', 2).stale('main', 1, 'k')
        self.assertEqual(run[1:], ((), (0, 1)))

    def test_missed_until_the_run_arrives(self):
        program = Program.read('base a kept k = a def main { a = a + 1 tell a }')
        states = States(program, (('carry', 'main', 0, 'k'), ('fresh', 'main', 1, 'k')), faults=3)
        for values, entry, choices, missed in states.arrived('main', 1):
            self.assertEqual(values[2] == values[1], missed != (0, 1))
            self.assertEqual(choices, ())
        self.assertEqual({len(missed) for _, _, _, missed in states.arrived('main', 1)}, {0, 1, 2})
        self.assertEqual([missed for _, _, _, missed in states.arrived('main', 0)], [(), ()])

    def test_tolerance(self):
        program = Program.read(self.text)
        for updates, far in [(self.updates, 1), (self.updates[:2], 1), (self.updates[:1], 0), (self.updates[1:], 0), ((), None),
                             (self.updates[2:], None)]:
            self.assertEqual(tolerance(program, updates), far)
            self.assertEqual(tolerance(program=program, updates=updates, start='right'), far)
        self.assertEqual(tolerance(program, self.updates, 'any'), 0)
        self.assertEqual(tolerance(Program.read('base a kept k = a def main { tell k }')), 3)
        more = Program.read('base a kept k = a def main { a = 1 tell a tell a tell a tell k }')
        found = [tolerance(more, tuple(('fresh', 'main', place, 'k') for place in range(1, 1 + many))) for many in range(5)]
        self.assertEqual(found, [None, 0, 1, 2, 3])

    def test_a_loop_may_miss_each_time(self):
        program = Program.read('base a kept k = a def main { while { a = a + 1 } tell k }')
        updates = (('carry', 'main', 1, 'k'),)
        for faults in (1, 2, 3):
            states = States(program, updates, faults=faults)
            entry, choices, missed = states.stale('main', 2, 'k')
            self.assertEqual(len(choices), 2)
            self.assertEqual(missed, (0,))

    def test_more_faults_than_updates(self):
        program = Program.read('base a kept k = a def main { a = 1 fresh k tell k }')
        self.assertEqual([is_right(program, (), 'right', faults) for faults in range(4)], [True] * 4)
        self.assertEqual(States(program, faults=3).arrived('main', 2), States(program).arrived('main', 2))


class Checked:
    """What must hold for the states of a program, as runs by hand show it."""

    def check(self, program, updates, start, faults, most, most_runs):
        states = States(program, updates, start, faults)
        arrived, stale, ends = self.seen(program, updates, start, faults, most, most_runs)
        for name, place in places_of(program):
            self.check_place(program, states, name, place, arrived.get((name, place), {}))
            self.check_runs(program, updates, states, name, place, start, faults)
            for kept in program.kept:
                self.check_stale(program, updates, states, name, place, kept, arrived.get((name, place), {}))
        self.assertTrue(stale <= set(states.stale_uses()))
        self.assertTrue(set(states.right_at_end()) <= set(ends))
        self.assertEqual(is_right(program, updates, start, faults), states.stale_uses() == [])
        return states

    def seen(self, program, updates, start, faults, most, most_runs):
        """What runs with few choices show: the values at places, the stale uses, and what is right at the end."""
        arrived, stale, many = {}, set(), 0
        ends = list(program.kept)
        for _, run in runs_with_faults(program, updates, start, faults, most):
            many += 1
            if many > most_runs:
                return arrived, stale, ends
            for name, place, row, _, _ in run.arrivals:
                arrived.setdefault((name, place), {})[row] = True
            stale |= set(run.stale)
            if run.ended:
                ends = [kept for kept in ends if is_right_in(program, run.row(), kept)]
        return arrived, stale, ends

    def check_place(self, program, states, name, place, rows):
        space, equations = states.space(name, place), states.equations(name, place)
        self.assertEqual(space.width, 1 + len(program.base + program.kept))
        self.assertEqual(len(space) + len(equations), space.width)
        self.assertEqual(len(Space(space.width, equations)), len(equations))
        for row in rows:
            self.assertIn(row, space)
            self.assertFalse([equation for equation in equations if product(equation, row)])
        for row in space.rows:
            self.assertFalse([equation for equation in equations if product(equation, row)])

    def check_runs(self, program, updates, states, name, place, start, faults):
        found = states.arrived(name, place)
        space = states.space(name, place)
        self.assertEqual(Space(space.width, [values for values, _, _, _ in found]), space)
        length = len(program.base) if start == 'right' else len(program.base + program.kept)
        before = {}
        for values, entry, choices, missed in found:
            self.assertLessEqual(len(missed), faults)
            self.assertEqual(len(entry), length)
            hand = ByHand(program, updates, entry, choices, missed)
            self.assertIn((name, place, values, choices, missed), hand.arrivals)
            outcome = Machine(program, updates)(entry, list(choices), missed)
            self.assertEqual(outcome, (hand.state(), tuple(hand.told), len(hand.taken)))
            rows = before.setdefault(len(missed), [])
            self.assertNotIn(values, Space(space.width, rows))
            rows.append(values)

    def check_stale(self, program, updates, states, name, place, kept, rows):
        run = states.stale(name, place, kept)
        self.assertIs(states.is_right(name, place, kept), run is None)
        if run is None:
            self.assertTrue(all(is_right_in(program, row, kept) for row in rows))
            return
        entry, choices, missed = run
        hand = ByHand(program, updates, entry, choices, missed)
        self.assertTrue([row for other, at, row, taken, left in hand.arrivals
                         if (other, at, taken, left) == (name, place, choices, missed) and not is_right_in(program, row, kept)])
        if (name, place, kept) in states.uses():
            self.assertIn((name, place, kept), Machine(program, updates).stale(entry, list(choices), missed))


class Drawn(Checked, unittest.TestCase):
    def test_small_programs(self):
        draws = Draws(101)
        for at in range(160):
            program = drawn_program(draws, base=draws.between(1, 2), kept=draws.between(1, 2), most_extent=14)
            updates = drawn_updates(draws, program, 5, unreached=True)
            start, faults = ('right', 'any')[at % 2], at // 2 % 4
            states = self.check(program, updates, start, faults, 5, 300)
            far = tolerance(program, updates, start)
            self.assertEqual(states.stale_uses() == [], far is not None and faults <= far)

    def test_all_of_it_is_seen_in_programs_without_loops(self):
        draws = Draws(102)
        tried = 0
        while tried < 40:
            program = drawn_program(draws, most_extent=10)
            if any(statement[0] == 'while' for name in program.procedures for _, statement in program.statements(name)):
                continue
            tried += 1
            updates = drawn_updates(draws, program, 3)
            start, faults = ('right', 'any')[tried % 2], tried // 2 % 4
            states = self.check(program, updates, start, faults, 6, 10000)
            arrived, stale, ends = self.seen(program, updates, start, faults, 6, 10000)
            for name, place in places_of(program):
                self.assertEqual(states.space(name, place), Space(states.space(name, place).width,
                                                                  list(arrived.get((name, place), {}))))
            self.assertEqual(set(states.stale_uses()), stale)
            self.assertEqual(states.right_at_end(), ends)

    def test_entries_of_small_numbers(self):
        draws = Draws(103)
        for at in range(12):
            program = drawn_program(draws, base=1, kept=2, most_extent=12)
            updates = drawn_updates(draws, program, 4)
            start = ('right', 'any')[at % 2]
            states = States(program, updates, start)
            for entry in entries(program, start, 4):
                for run in list(all_runs(program, updates, entry, 4, (0, 1, -5)))[:20]:
                    self.assertTrue(set(run.stale) <= set(states.stale_uses()))
                    for name, place, row, _, _ in run.arrivals:
                        self.assertIn(row, states.space(name, place))


class Large(Checked, unittest.TestCase):
    def test_programs_as_large_as_allowed(self):
        draws = Draws(104)
        for at in range(4):
            program = drawn_program(draws, procedures=5, base=4, kept=3, depth=6, many=8)
            while program.extent(program.start) < 200:
                program = drawn_program(draws, procedures=5, base=4, kept=3, depth=6, many=8)
            self.check(program, drawn_updates(draws, program, 20), ('right', 'any')[at % 2], at % 4, 2, 6)

    def test_loops_in_loops(self):
        text = ('base a b c d kept k = a + b + c + d kept j = k - 2*d kept m = j + 3*a def main { a = 0 b = 0 c = 0 d = 0 '
                'fresh k fresh j fresh m while { a = a + 1 carry k while { b = b + a carry k, j while { c = c + b carry j '
                'while { d = d + c carry m while { call p pause } } } } } tell k + j + m }'
                ' def p { while { a = a - d while { b = ? } } } def h { c = m - k tell j }').replace('def main', 'handlers h def main', 1)
        program = Program.read(text)
        for start, faults in [('right', 0), ('any', 3)]:
            states = self.check(program, (('carry', 'p', 1, 'k'), ('fresh', 'h', 0, 'm'), ('fresh', 'main', 12, 'j')), start, faults, 3, 20)
            self.assertEqual(len(states.space('main', 17)), 8)

    def test_the_greatest_extent(self):
        text = ('base a b kept k = a - b handlers h def main { ' + 'pause call p ' * 3 + 'tell k } def p { '
                + 'while { call q } ' * 3 + '} def q { ' + 'if { a = a + b carry k } ' * 6 + 'pause } def h { '
                + 'a = a + 1 b = b + 1 ' * 10 + 'tell k }')
        program = Program.read(text)
        self.assertTrue(350 < program.extent('main') <= 400)
        states = self.check(program, (), 'right', 0, 1, 2)
        self.assertEqual(states.stale_uses(), [])
        self.assertEqual(States(program, (('carry', 'h', 4, 'k'),)).stale_uses(), [('main', 6, 'k'), ('h', 20, 'k')])

    def test_numbers_that_grow(self):
        program = Program.read('base a b kept k = 999999999999*a - b def main { while { a = 999999999999*a + 1 while { '
                               'b = 999999999999*b - a } } tell k }')
        states = self.check(program, (('carry', 'main', 1, 'k'), ('carry', 'main', 3, 'k')), 'right', 0, 3, 20)
        self.assertEqual(states.stale_uses(), [])


class Alike(unittest.TestCase):
    def test_other_names(self):
        names = dict(zip(['a', 'b', 'k', 'j', 'main', 'p', 'q', 'h', 'i'], ['z9', 'y', 'e', 'q', 'n', 'c', 'm', 'k', 'a']))
        draws = Draws(105)

        def renamed(value):
            if isinstance(value, tuple):
                found = tuple(renamed(part) for part in value)
                # The terms of an expression stand in ascending order of their variables.
                is_terms = found and all(isinstance(part, tuple) and len(part) == 2 and type(part[1]) is int for part in found)
                return tuple(sorted(found)) if is_terms else found
            return names.get(value, value)

        for at in range(30):
            program = drawn_program(draws, most_extent=20, procedures=5)
            updates = drawn_updates(draws, program)
            other = Program(renamed(program.tree()))
            others = tuple(sorted(renamed(updates)))
            start, faults = ('right', 'any')[at % 2], at % 3
            one, two = States(program, updates, start, faults), States(other, others, start, faults)
            self.assertEqual(two.stale_uses(), list(renamed(tuple(one.stale_uses()))))
            self.assertEqual(two.right_at_end(), list(renamed(tuple(one.right_at_end()))))
            for name, place in places_of(program):
                self.assertEqual(one.space(name, place), two.space(names[name], place))

    def test_written_updates_are_the_same_as_updates(self):
        draws = Draws(106)
        for at in range(30):
            program = drawn_program(draws, most_extent=20)
            updates = drawn_updates(draws, program)
            written = updated(program, updates)
            start = ('right', 'any')[at % 2]
            one, two = States(program, updates, start), States(written, (), start)
            self.assertEqual(one.right_at_end(), two.right_at_end())
            self.assertEqual([use[::2] for use in one.stale_uses()], [use[::2] for use in two.stale_uses()])
            for name in program.procedures:
                kept = [place for place, statement in written.statements(name)
                        if statement[0] != 'fresh']
                plain = [place for place, statement in program.statements(name) if statement[0] != 'fresh']
                for place, other in zip(plain, kept):
                    self.assertEqual(one.space(name, place), two.space(name, other))

    def test_equal_calls(self):
        draws = Draws(107)
        for _ in range(10):
            program = drawn_program(draws, most_extent=20)
            updates = drawn_updates(draws, program)
            one, two = States(program, updates, 'any', 2), States(program=program, updates=updates, start='any', faults=2)
            for name, place in places_of(program):
                self.assertEqual(one.arrived(name, place), two.arrived(name=name, place=place))
                self.assertEqual(one.arrived(name, place), one.arrived(name, place))
                self.assertEqual(one.equations(name, place), two.equations(name=name, place=place))
                for kept in program.kept:
                    self.assertEqual(one.stale(name, place, kept), two.stale(name=name, place=place, kept=kept))
                    self.assertEqual(one.is_right(name, place, kept), two.is_right(name=name, place=place, kept=kept))


if __name__ == '__main__':
    unittest.main()
