import unittest

from byhand import ByHand, all_runs
from draws import Draws
from freshplaces.errors import InvalidAction, LimitExceeded
from freshplaces.machine import Machine
from freshplaces.programs import Program
from programs_drawn import drawn_program, drawn_updates


def machine(text, updates=()):
    return Machine(Program.read(text), updates)


class Examples(unittest.TestCase):
    def test_first(self):
        program = Program.read('base x kept k = x def main { x = x + 1 tell k x = ? carry k tell k }')
        one = Machine(program, (('carry', 'main', 0, 'k'),))
        self.assertEqual((Machine(program)((0,), [5]), Machine(program).stale((0,), [5]), one.stale((0,), [5]),
                          one.stale((0,), [5], (0,))),
                         (((5, 4), (0, 4), 1), [('main', 1, 'k'), ('main', 3, 'k')], [], [('main', 1, 'k'), ('main', 3, 'k')]))

    def test_second(self):
        one = machine('base a kept k = a def main { while { a = a + 1 } tell k }', (('fresh', 'main', 2, 'k'),))
        self.assertEqual((one((3,), [1, 1]), one((3,), [1, 1], (0,)), one.stale((3,), [1], (0,)), one.work((3,), [1, 1])),
                         (((5, 5), (5,), 3), ((5, 3), (3,), 3), [('main', 2, 'k')], 2))


class Statements(unittest.TestCase):
    def test_set_and_tell(self):
        one = machine('base a b kept k = a def main { a = 2*b - a + 3 tell 5 b = k tell a - b tell k + a }')
        self.assertEqual(one((1, 10), []), ((22, 1, 1), (5, 21, 23), 0))

    def test_input(self):
        one = machine('base a b def main { a = ? tell a b = ? a = ? }')
        self.assertEqual(one((1, 2), [7, -10 ** 30]), ((0, -10 ** 30), (7,), 3))
        self.assertEqual(one((1, 2), [7, 8, 9, 10, 11]), ((9, 8), (7,), 3))

    def test_carry(self):
        one = machine('base a b kept k = 3*a - b kept j = k - 3*a def main { a = a + 2 carry k b = ? carry j, k a = 0 carry k }')
        self.assertEqual(one((1, 1), [5]), ((0, 5, -5, -5), (), 1))
        self.assertEqual(one((1, 1, 100, 200), [5]), ((0, 5, 100 + 6 - 4 - 9, 196), (), 1))

    def test_carrying_reads_what_was_there_before(self):
        one = machine('base a kept k = a def main { a = k + a carry k tell k }')
        self.assertEqual(one((5, 7), []), ((12, 14), (14,), 0))

    def test_fresh(self):
        one = machine('base a kept k = a + 1 kept j = 2*k def main { a = a + 5 fresh j tell j fresh k fresh j tell j }')
        self.assertEqual(one((0,), []), ((5, 6, 12), (2, 12), 0))
        self.assertEqual(one.stale((0,), []), [('main', 2, 'j')])
        self.assertEqual(one.work((0,), []), 6)

    def test_if(self):
        one = machine('base a def main { if { tell 1 } else { tell 2 } if { tell 3 } tell 4 }')
        for choices, told in [([], (2, 4)), ([1], (1, 4)), ([1, 1], (1, 3, 4)), ([0, 1], (2, 3, 4)), ([3, -2], (1, 4)),
                              ([-1, -1], (1, 3, 4)), ([10 ** 20, 10 ** 20 + 1], (2, 3, 4))]:
            self.assertEqual(one((0,), choices), ((0,), told, 2))

    def test_while(self):
        one = machine('base a def main { while { a = a + 1 while { a = a + 10 } } tell a }')
        for choices, end, many in [([], 0, 1), ([1], 1, 3), ([1, 1, 1], 21, 5), ([1, 0, 1, 1], 12, 6), ([-3, 2, 5, 8], 2, 5),
                                   ([0, 1, 1], 0, 1)]:
            self.assertEqual(one((0,), choices), ((end,), (end,), many))

    def test_call(self):
        one = machine('base a def main { call p a = a + 1 call p } def p { tell a call q } def q { a = 2*a }')
        self.assertEqual(one((3,), []), ((14,), (3, 7), 0))

    def test_pause(self):
        one = machine('base a handlers h i def main { pause tell a } def i { a = a + 10 } def h { a = a + 1 }')
        for choice, end in [(0, 0), (1, 1), (2, 10), (3, 0), (4, 1), (-1, 10), (-2, 1), (10 ** 18, 1)]:
            self.assertEqual(one((0,), [choice]), ((end,), (end,), 1))
        self.assertEqual(machine('base a def main { pause pause a = ? }')((0,), [5, -7, 9]), ((9,), (), 3))

    def test_handlers_may_pause_no_more_but_call(self):
        one = machine('base a handlers h def main { call p } def p { pause pause } def h { call q a = a + 1 } def q { a = ? }')
        self.assertEqual(one((0,), [1, 5, 1, 7]), ((8,), (), 4))
        self.assertEqual(one((0,), [0, 1, 5]), ((6,), (), 3))

    def test_nothing(self):
        self.assertEqual(machine('base a b def main { }')((1, 2), [1]), ((1, 2), (), 0))


class Updates(unittest.TestCase):
    def test_several_at_one_place_in_the_order_of_the_kept_variables(self):
        text = 'base a kept z = a kept b = z + 1 def main { a = 5 tell z + b }'
        updates = (('fresh', 'main', 1, 'b'), ('fresh', 'main', 1, 'z'))
        self.assertEqual(machine(text, updates)((1,), []), ((5, 5, 6), (11,), 0))
        self.assertEqual(machine(text, updates)((1,), [], (0,)), ((5, 1, 2), (3,), 0))
        self.assertEqual(machine(text, updates)((1,), [], (1,)), ((5, 5, 2), (7,), 0))

    def test_at_one_place_those_that_carry_are_numbered_last(self):
        text = 'base a kept z = a kept b = a def main { a = a + 1 tell z + b }'
        updates = tuple(sorted((word, 'main', 0, kept) for word in ('fresh', 'carry') for kept in 'zb'))
        one = machine(text, updates)
        # Numbers 0 and 1 compute z and b anew, 2 and 3 carry them.
        for missed, values in [((), (8, 8, 8)), ((0,), (8, 3, 8)), ((1,), (8, 8, 4)), ((2,), (8, 7, 8)), ((3,), (8, 8, 7)),
                               ((0, 3), (8, 3, 7)), ((0, 1, 2, 3), (8, 2, 3)), ((4, 9), (8, 8, 8))]:
            self.assertEqual(one((7, 2, 3), [], missed)[0], values)
            self.assertEqual(one.work((7, 2, 3), [], missed), 8 - 2 * len([number for number in missed if number < 4]))

    def test_at_a_while_once_before_its_first_choice(self):
        one = machine('base a kept k = a def main { a = 1 while { tell k a = a + 1 } tell k }', (('fresh', 'main', 1, 'k'),))
        self.assertEqual(one((0,), [1, 1]), ((3, 1), (1, 1, 1), 3))
        self.assertEqual(one.work((0,), [1, 1]), 2)
        self.assertEqual(one.stale((0,), [1, 1]), [('main', 2, 'k'), ('main', 4, 'k')])

    def test_at_each_kind_of_statement(self):
        for text in ['a = 1', 'a = ?', 'tell a', 'fresh k', 'call p', 'pause', 'if { }', 'while { }']:
            one = machine('base a kept k = a kept j = 3*a def main { ' + text + ' } def p { }', (('fresh', 'main', 0, 'j'),))
            self.assertEqual(one((2, 9, 9), [])[0][2], 6)

    def test_places_and_choices_are_those_of_the_program(self):
        text = 'base a kept k = a def main { if { a = ? } else { a = 3 } tell k }'
        updates = (('carry', 'main', 1, 'k'), ('carry', 'main', 2, 'k'), ('fresh', 'main', 0, 'k'))
        one = machine(text, updates)
        self.assertEqual(one((0,), [1, 8]), ((8, 8), (8,), 2))
        self.assertEqual(one((0, 5), [0]), ((3, 3), (3,), 1))
        self.assertEqual(one.visits((0,), [1]), {('main', 0): 1, ('main', 1): 1, ('main', 3): 1})

    def test_a_missed_update_can_be_repaired_later(self):
        one = machine('base a kept k = a def main { a = 1 tell k tell k }', (('carry', 'main', 0, 'k'), ('fresh', 'main', 2, 'k')))
        self.assertEqual(one((0,), [], (0,)), ((1, 1), (0, 1), 0))
        self.assertEqual(one.stale((0,), [], (0,)), [('main', 1, 'k')])
        self.assertEqual(one.stale((0,), [], (0, 1)), [('main', 1, 'k'), ('main', 2, 'k')])
        self.assertEqual(one.stale((0,), [], (1,)), [])

    def test_the_property(self):
        updates = (('carry', 'main', 0, 'k'),)
        program = Program.read('base a kept k = a def main { a = 1 }')
        self.assertEqual(Machine(program, updates).updates, updates)
        self.assertEqual(Machine(program=program, updates=updates).updates, updates)
        self.assertEqual(Machine(program).updates, ())


class Entries(unittest.TestCase):
    def test_values_of_base_variables(self):
        one = machine('base a b kept k = a - b kept j = 2*k + a + 1 def main { tell j }')
        self.assertEqual(one((5, 3), []), ((5, 3, 2, 10), (10,), 0))
        self.assertEqual(one.stale((5, 3), []), [])

    def test_values_of_all_variables(self):
        one = machine('base a b kept k = a - b kept j = 2*k + a + 1 def main { tell j }')
        self.assertEqual(one((5, 3, 7, 10), []), ((5, 3, 7, 10), (10,), 0))
        self.assertEqual(one.stale((5, 3, 7, 10), []), [])
        self.assertEqual(one.stale((5, 3, 2, 20), []), [('main', 0, 'j')])

    def test_large_and_negative(self):
        one = machine('base a kept k = 999999999999*a def main { tell k - a }')
        self.assertEqual(one((-10 ** 60,), [])[1], (-999999999998 * 10 ** 60,))


class Stale(unittest.TestCase):
    def test_one_use_several_times_in_the_order_of_the_run(self):
        one = machine('base a kept z = a kept b = 2*a def main { a = 1 while { tell b + z call p } } def p { a = a + b }')
        self.assertEqual(one.stale((0,), [1, 1]), [('main', 2, 'z'), ('main', 2, 'b'), ('p', 0, 'b')] * 2)

    def test_a_kept_variable_may_be_right_by_chance(self):
        one = machine('base a kept k = a def main { a = ? tell k a = ? tell k }')
        self.assertEqual(one.stale((3,), [3, 4]), [('main', 3, 'k')])
        self.assertEqual(one.stale((3,), [4, 3]), [('main', 1, 'k')])

    def test_right_means_the_unfolded_formula(self):
        one = machine('base a kept k = a kept j = k def main { a = 1 fresh j tell j }')
        self.assertEqual(one.stale((0,), []), [('main', 2, 'j')])


class VisitsAndWork(unittest.TestCase):
    text = 'base a kept k = a kept j = a + k def main { while { call p } if { fresh j } call p } def p { a = ? carry j, k a = a + 1 carry k }'

    def test_visits(self):
        one = machine(self.text)
        self.assertEqual(one.visits((0,), [1, 5, 1, 6, 0, 0]), {('main', 0): 1, ('main', 1): 2, ('main', 2): 1, ('main', 4): 1,
                                                             ('p', 0): 3, ('p', 1): 3})
        self.assertEqual(one.visits((0,), [0, 1]), {('main', 0): 1, ('main', 2): 1, ('main', 3): 1, ('main', 4): 1,
                                                 ('p', 0): 1, ('p', 1): 1})
        self.assertEqual(machine('base a def main { }').visits((0,), []), {})

    def test_a_while_begins_once_for_all_its_rounds(self):
        one = machine('base a def main { while { } while { while { } } }')
        self.assertEqual(one.visits((0,), [1, 1, 1, 0, 1, 0, 1]), {('main', 0): 1, ('main', 1): 1, ('main', 2): 2})

    def test_work(self):
        one = machine(self.text)
        self.assertEqual(one.work((0,), []), 6 + 2)
        self.assertEqual(one.work((0,), [1, 5, 0, 1]), 2 * (6 + 2) + 3)
        updates = (('carry', 'p', 1, 'j'), ('fresh', 'main', 4, 'j'), ('fresh', 'p', 0, 'k'))
        self.assertEqual(machine(self.text, updates).work((0,), [1, 5, 0, 1]), 2 * (6 + 2) + 3 + 2 * 2 + 3 + 2 * 2)

    def test_what_is_missed_is_no_work_but_the_programs_own_has_no_number(self):
        updates = (('carry', 'p', 1, 'j'), ('fresh', 'p', 0, 'k'))
        one = machine(self.text, updates)
        for missed, less in [((), 0), ((0,), 2), ((1,), 2), ((0, 1), 4), ((2, 3, 4), 0)]:
            self.assertEqual(one.work((0,), [], missed), 8 + 4 - less)

    def test_the_dict_and_the_lists_are_new(self):
        one = machine('base a kept k = a def main { a = 1 tell k }')
        one.visits((0,), []).clear()
        one.stale((0,), []).clear()
        self.assertEqual((one.visits((0,), []), one.stale((0,), [])), ({('main', 0): 1, ('main', 1): 1}, [('main', 1, 'k')]))


class Limit(unittest.TestCase):
    def test_four_thousand_statements(self):
        one = machine('base a kept k = a def main { while { a = a + 1 } tell k }', (('fresh', 'main', 1, 'k'),))
        choices = [1] * 3998
        self.assertEqual(one((0,), choices), ((3998, 3997), (3997,), 3999))
        self.assertEqual(one.visits((0,), choices), {('main', 0): 1, ('main', 1): 3998, ('main', 2): 1})
        self.assertEqual(one.work((0,), choices), 2 * 3998)
        self.assertEqual(one.stale((0,), choices), [('main', 2, 'k')])
        for call in (one, one.stale, one.visits, one.work):
            with self.assertRaises(LimitExceeded) as caught:
                call((0,), choices + [1])
            self.assertEqual(caught.exception.word, 'steps')

    def test_choices_are_no_statements(self):
        one = machine('base a def main { while { } tell a }')
        self.assertEqual(one((0,), [1] * 9000)[2], 9001)

    def test_later_statements_do_not_begin(self):
        one = machine('base a def main { while { a = 1 } }')
        self.assertEqual(one((0,), [1] * 3999)[2], 4000)
        with self.assertRaises(LimitExceeded):
            one((0,), [1] * 4000)


class Within(unittest.TestCase):
    text = 'base a kept k = a def main { a = a + 1 tell k }'
    carried = (('carry', 'main', 0, 'k'),)
    fresh = (('fresh', 'main', 1, 'k'),)

    def test_other_updates_and_then_the_own_ones(self):
        one = machine(self.text, self.carried)
        self.assertEqual(one.within((), lambda: (one.updates, one.stale((0,), []))), ((), [('main', 1, 'k')]))
        self.assertEqual((one.updates, one.stale((0,), [])), (self.carried, []))
        self.assertEqual(one.within(updates=self.fresh, call=lambda: one.updates), self.fresh)

    def test_nested(self):
        one = machine(self.text, self.carried)
        seen = []

        def inner():
            seen.append((one.updates, one((0,), [], (0,))))
            return 'inner'

        def outer():
            found = one.within(self.fresh, inner)
            seen.append((one.updates, one((0,), [])))
            return found

        self.assertEqual(one.within((), outer), 'inner')
        seen.append((one.updates, one.work((0,), [])))
        self.assertEqual(seen, [(self.fresh, ((1, 0), (0,), 0)), ((), ((1, 0), (0,), 0)), (self.carried, 2)])

    def test_a_call_that_raises(self):
        one = machine(self.text, self.carried)

        def fails():
            self.assertEqual(one.updates, self.fresh)
            raise ZeroDivisionError

        with self.assertRaises(ZeroDivisionError):
            one.within(self.fresh, fails)
        self.assertEqual((one.updates, one.stale((0,), [])), (self.carried, []))
        with self.assertRaises(LimitExceeded):
            machine('base a def main { while { tell a } }').within((), lambda: machine('base a def main { while { tell a } }')((0,), [1] * 5000))

    def test_what_are_no_updates_before_the_call(self):
        one = machine(self.text, self.carried)
        called = []
        for updates in [list(self.fresh), self.fresh + self.fresh, self.fresh + self.carried, None, ('x',)]:
            with self.assertRaises(InvalidAction):
                one.within(updates, lambda: called.append(1))
        self.assertEqual((called, one.updates), ([], self.carried))

    def test_two_machines_of_one_program(self):
        program = Program.read(self.text)
        one, other = Machine(program, self.carried), Machine(program)
        self.assertEqual(one.within(self.fresh, lambda: (one.updates, other.updates, other.stale((0,), []))),
                         (self.fresh, (), [('main', 1, 'k')]))
        self.assertEqual(one.within((), lambda: other.within(self.fresh, lambda: (one.updates, other.updates))), ((), self.fresh))
        self.assertEqual((one.updates, other.updates), (self.carried, ()))


class Drawn(unittest.TestCase):
    def test_as_by_hand(self):
        draws = Draws(81)
        for _ in range(60):
            program = drawn_program(draws, base=2, kept=3, most_extent=30, procedures=5)
            updates = drawn_updates(draws, program, 6, unreached=True)
            one = Machine(program, updates)
            for entry in [(0, 0), (3, -1), (1, 2, 3, 4, 5)]:
                for run in list(all_runs(program, updates, entry, 4, (2, -3)))[:15]:
                    choices = run.taken[:len(run.taken) - draws.below(3)] + [7] * draws.below(2)
                    missed = tuple(sorted({draws.below(5) for _ in range(draws.below(4))}))
                    self.check(one, program, updates, entry, choices, missed)

    def check(self, one, program, updates, entry, choices, missed):
        before = list(choices)
        hand = ByHand(program, updates, entry, choices, missed)
        self.assertEqual(one(entry, choices, missed), (hand.state(), tuple(hand.told), len(hand.taken)))
        self.assertEqual(one.stale(entry, choices, missed), hand.stale)
        self.assertEqual(one.work(entry=entry, choices=choices, missed=missed), hand.work)
        self.assertEqual(one.visits(entry=entry, choices=choices), hand.visits)
        self.assertEqual(one(entry=entry, choices=choices, missed=missed), one(entry, choices, missed))
        self.assertEqual(choices, before)

    def test_the_methods_stand_in_the_class(self):
        for name in ['updates', '__call__', 'stale', 'visits', 'work', 'runs', 'within']:
            self.assertIn(name, vars(Machine))
        self.assertFalse(machine('base a def main { }') == 'machine')


if __name__ == '__main__':
    unittest.main()
