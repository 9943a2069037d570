import unittest

from byhand import ByHand, all_runs, entries
from draws import Draws
from freshplaces.actions import cost
from freshplaces.campaigns import campaign, counted, exposed
from freshplaces.errors import InvalidAction, InvalidChoices, InvalidEntry, LimitExceeded
from freshplaces.machine import Machine
from freshplaces.programs import Program
from programs_drawn import drawn_program, drawn_updates
from strange import strange_values

TWO = 'base a b kept k = a kept j = a + b '


class Campaigns(unittest.TestCase):
    def test_of_the_document(self):
        program = Program.read('base a kept k = a def main { a = ? tell k }')
        self.assertEqual(list(campaign(program, (0, 0), 1)), [([0], []), ([1], [('main', 1, 'k')])])

    def test_most_0(self):
        program = Program.read(TWO + 'def main { a = 1 tell k }')
        self.assertEqual(list(campaign(program, (0, 0), 0)), [([], [('main', 1, 'k')])])
        program = Program.read(TWO + 'def main { a = ? tell k }')
        self.assertEqual(list(campaign(program, (0, 0), 0)), [])

    def test_one_input_and_several(self):
        program = Program.read(TWO + 'def main { a = ? tell k b = ? carry j tell j }')
        stale = [('main', 1, 'k'), ('main', 3, 'j')]
        self.assertEqual(list(campaign(program, (5, 0), 2, inputs=(5,))), [([5, 5], [])])
        self.assertEqual(list(campaign(program, (5, 0), 2, inputs=(7,))), [([7, 7], stale)])
        self.assertEqual(list(campaign(program, (5, 0), 2, inputs=(9, 5, -1))),
                         [([a, b], [] if a == 5 else stale) for a in (9, 5, -1) for b in (9, 5, -1)])
        self.assertEqual(list(campaign(program, (5, 0), 1)), [])

    def test_updates(self):
        program = Program.read(TWO + 'def main { a = ? tell k tell j }')
        self.assertEqual(list(campaign(program, (0, 0), 1, (('carry', 'main', 0, 'j'),))), [([0], []), ([1], [('main', 1, 'k')])])
        self.assertEqual(list(campaign(program, (0, 0), 1, (('carry', 'main', 0, 'j'), ('fresh', 'main', 1, 'k')))), [([0], []), ([1], [])])

    def test_uses_that_are_made_several_times(self):
        program = Program.read(TWO + 'def main { a = 1 while { tell k + j } }')
        self.assertEqual(list(campaign(program, (0, 0), 3)), [
            ([0], []), ([1, 0], [('main', 2, 'k'), ('main', 2, 'j')]), ([1, 1, 0], [('main', 2, 'k'), ('main', 2, 'j')] * 2)])

    def test_runs_that_exceed_the_limit_are_left_out(self):
        program = Program.read('base a kept k = a def main { while { %s } tell k }' % ('call p ' * 5) + ' def p { %s }' % ('a = 1 ' * 50))
        found = list(campaign(program, (0,), 20))
        self.assertEqual([len(choices) for choices, _ in found][:3], [1, 2, 3])
        self.assertLess(len(found), 20)
        with self.assertRaises(LimitExceeded):
            Machine(program).stale((0,), [1] * len(found) + [0])

    def test_drawn(self):
        draws = Draws(251)
        stale = 0
        for _ in range(200):
            program = drawn_program(draws, base=2, kept=2, most_extent=12)
            updates = drawn_updates(draws, program, 5, unreached=True)
            entry = draws.one_of(list(entries(program, draws.one_of(['right', 'any']))))
            inputs = draws.one_of([(0, 1), (1,), (2, 0), (3, -1, 1)])
            most = draws.below(4)
            found = list(campaign(program, entry, most, updates, inputs=inputs))
            machine = Machine(program, updates)
            self.assertEqual(found, [(choices, machine.stale(entry, choices)) for choices, _ in machine.runs(entry, most, inputs)])
            self.assertEqual(found, [(run.taken, run.stale) for run in all_runs(program, updates, entry, most, inputs)])
            wanted = []
            for name in program.procedures:
                wanted += [use for use in program.uses(name) if any(use in uses for _, uses in found)]
            self.assertEqual(exposed(program, entry, most, updates, inputs=inputs), wanted)
            stale += len(wanted)
        self.assertGreater(stale, 40)

    def test_it_is_a_generator(self):
        program = Program.read('base a kept k = a def main { while { a = ? } tell k }')
        found = campaign(program, (0,), 60)
        self.assertIs(iter(found), found)
        self.assertEqual([next(found)[0] for _ in range(2)], [[0], [1, 0, 0]])

    def test_told_lists_are_new(self):
        program = Program.read('base a kept k = a def main { a = ? tell k if { tell k } }')
        wanted = list(campaign(program, (0,), 2))
        found = []
        for choices, uses in campaign(program, (0,), 2):
            found.append((list(choices), list(uses)))
            choices.clear()
            uses.append('x')
        self.assertEqual(found, wanted)


class Exposed(unittest.TestCase):
    def test_in_the_order_of_the_program(self):
        text = TWO + 'def main { a = 1 call q if { tell j } call p tell j + k } def p { tell k } def q { tell j }'
        self.assertEqual(exposed(Program.read(text), (0, 0), 1), [
            ('main', 3, 'j'), ('main', 5, 'k'), ('main', 5, 'j'), ('p', 0, 'k'), ('q', 0, 'j')])
        self.assertEqual(exposed(Program.read(text), (1, 0), 1), [])
        self.assertEqual(exposed(Program.read(text), (0, 0), 0), [])

    def test_choices_and_inputs(self):
        program = Program.read(TWO + 'def main { a = ? if { tell k } }')
        self.assertEqual(exposed(program, (0, 0), 1), [])
        self.assertEqual(exposed(program, (0, 0), 2), [('main', 2, 'k')])
        self.assertEqual(exposed(program, (1, 0), 2, inputs=(1,)), [])
        self.assertEqual(exposed(program, (1, 0), 2, (('fresh', 'main', 1, 'k'),)), [])
        self.assertEqual(exposed(inputs=(4, 1), updates=(), most=2, entry=(1, 0), program=program), [('main', 2, 'k')])

    def test_lists_are_new(self):
        program = Program.read(TWO + 'def main { a = 1 tell k }')
        exposed(program, (0, 0), 1).clear()
        self.assertEqual(exposed(program, (0, 0), 1), [('main', 1, 'k')])


class Counted(unittest.TestCase):
    text = TWO + 'handlers h def main { while { a = ? if { tell a } else { call p } } pause } def h { call p } def p { b = 1 } def far { tell a }'

    def test_all_places(self):
        program = Program.read(self.text)
        spots = [(name, place) for name in program.procedures for place, _ in program.statements(name)]
        found = counted(program, (0, 0), [[]])
        self.assertEqual(found, {spot: int(spot in [('main', 0), ('main', 5)]) for spot in spots})
        found = counted(program, (0, 0), [[1, 5, 1, 1, 5, 0, 0, 1]])
        self.assertEqual(found, {('main', 0): 1, ('main', 1): 2, ('main', 2): 2, ('main', 3): 1, ('main', 4): 1, ('main', 5): 1,
                                 ('p', 0): 2, ('h', 0): 1, ('far', 0): 0})

    def test_several_lists(self):
        program = Program.read(self.text)
        one, other = [1, 5, 1, 0, 1], [1, 0, 0, 1, 2, 1]
        found, first, second = (counted(program, (0, 0), runs) for runs in ([one, other], [one], [other]))
        self.assertEqual(found, {spot: first[spot] + second[spot] for spot in found})
        self.assertEqual(counted(program, (0, 0), [one, one, one]), {spot: 3 * many for spot, many in first.items()})
        self.assertEqual(counted(program, (0, 0), []), dict.fromkeys(found, 0))

    def test_entries_of_both_lengths(self):
        program = Program.read(self.text)
        self.assertEqual(counted(program, (0, 0, 5, 5), [[1]]), counted(runs=[[1]], entry=(3, 4), program=program))

    def test_drawn(self):
        """With the counted weights, the cost of updates is the work that they add to the runs."""
        draws = Draws(252)
        for _ in range(80):
            program = drawn_program(draws, base=2, kept=2, most_extent=40)
            updates = drawn_updates(draws, program, 8, unreached=True)
            entry = tuple(draws.below(3) for _ in range(draws.one_of([2, 4])))
            runs = [[draws.below(4) for _ in range(draws.below(12))] for _ in range(draws.below(4))]
            weights = counted(program, entry, runs)
            by_hand = [ByHand(program, (), entry, choices) for choices in runs]
            self.assertEqual(weights, {(name, place): sum(run.visits.get((name, place), 0) for run in by_hand)
                                       for name in program.procedures for place, _ in program.statements(name)})
            plain, machine = Machine(program), Machine(program, updates)
            added = sum(machine.work(entry, choices) - plain.work(entry, choices) for choices in runs)
            self.assertEqual(cost(program, updates, weights), added)

    def test_dicts_are_new_and_lists_are_not_changed(self):
        program = Program.read(self.text)
        runs = [[1, 5], []]
        counted(program, (0, 0), runs).clear()
        self.assertEqual((runs, len(counted(program, (0, 0), runs))), ([[1, 5], []], 9))


class Errors(unittest.TestCase):
    program = Program.read('base a kept k = a def main { while { a = 1 } tell k }')
    bad_entries = [*strange_values(), [0], (0, 0, 0), (True,), (0, None), '0', 0, ('0',)]
    long = [1] * 4000

    def campaigns(self, entry, updates):
        return [lambda: list(campaign(self.program, entry, 2, updates)), lambda: exposed(self.program, entry, 2, updates),
                lambda: list(campaign(updates=updates, most=2, entry=entry, program=self.program, inputs=(1,)))]

    def check(self, calls, error, field, value):
        for call in calls:
            with self.subTest(value=value), self.assertRaises(error) as caught:
                call()
            self.assertIs(type(caught.exception), error)
            self.assertIs(getattr(caught.exception, field), value)

    def test_updates(self):
        for updates in [value for value in strange_values() if type(value) is not tuple] + [[('fresh', 'main', 0, 'k')]]:
            self.check(self.campaigns((0,), updates) + self.campaigns(None, updates), InvalidAction, 'value', updates)
        self.check(self.campaigns(None, (('fresh', 'main', 0, 'k'), 'x')), InvalidAction, 'value', 'x')

    def test_entries(self):
        for entry in self.bad_entries:
            self.check(self.campaigns(entry, ()), InvalidEntry, 'value', entry)
            for runs in ([], [[]], [None], [self.long], [[1], 'x']):
                self.check([lambda: counted(self.program, entry, runs), lambda: counted(runs=runs, program=self.program, entry=entry)],
                           InvalidEntry, 'value', entry)

    def test_choices(self):
        for choices in [value for value in strange_values() if value != []] + [[True], [None], (1,), [1.0], '1', [1, 'x']]:
            for runs in ([choices], [[], [1], choices], [choices, [1]], [[1], choices, None], [self.long, choices]):
                self.check([lambda: counted(self.program, (0,), runs)], InvalidChoices, 'value', choices)

    def test_the_limit(self):
        for runs in ([self.long], [[1], self.long], [self.long, [1]]):
            self.check([lambda: counted(self.program, (0,), runs)], LimitExceeded, 'word', 'steps')
        self.assertEqual(counted(self.program, (0,), [[1] * 3998] * 3), {('main', 0): 3, ('main', 1): 3 * 3998, ('main', 2): 3})
        self.check([lambda: counted(self.program, (0,), [[1] * 3999])], LimitExceeded, 'word', 'steps')

    def test_keywords_alone(self):
        for call in [lambda: list(campaign(self.program, (0,), 1, (), (0, 1))), lambda: exposed(self.program, (0,), 1, (), (0, 1))]:
            with self.assertRaises(TypeError):
                call()


if __name__ == '__main__':
    unittest.main()
