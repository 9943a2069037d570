"""What [3] says of actions, the machine, carries, states, papers, labels and the cheapest updates together."""

import itertools
import unittest

from byhand import ByHand, all_runs, few_entries
from draws import Draws
from freshplaces.actions import anew, candidates, cost, updated
from freshplaces.carries import all_carried
from freshplaces.cheapest import cheapest_paper, is_cheapest
from freshplaces.labels import coarse
from freshplaces.machine import Machine
from freshplaces.papers import is_paper, paper
from freshplaces.programs import Program
from freshplaces.states import States, is_right, tolerance
from programs_drawn import drawn_program, drawn_updates


class WithFaults(unittest.TestCase):
    def test_right_programs_tell_the_same_though_updates_are_missed(self):
        draws = Draws(141)
        seen = {0: 0, 1: 0, 2: 0, 3: 0}
        while min(seen.values()) < 8:
            program = drawn_program(draws, base=2, kept=1, most_extent=10)
            updates = tuple(action for action in candidates(program) if draws.below(4))
            far = tolerance(program, updates)
            if far is None or not updates or not program.uses(program.start):
                continue
            seen[far] += 1
            plain = Machine(anew(program))
            machine = Machine(program, updates)
            for entry in few_entries(program, 'right'):
                for run in list(all_runs(program, updates, entry, 3))[:20]:
                    for many in range(far + 1):
                        for missed in itertools.islice(itertools.combinations(range(run.performed), many), 30):
                            values, told, used = machine(entry, run.taken, missed)
                            self.assertEqual((values[:2], told, used), plain(entry, run.taken))
                            self.assertEqual(machine.stale(entry, run.taken, missed), [])

    def test_what_is_not_tolerated_is_shown(self):
        draws = Draws(142)
        shown = 0
        for _ in range(80):
            program = drawn_program(draws, base=2, kept=1, most_extent=15)
            updates = drawn_updates(draws, program, 8)
            far = tolerance(program, updates)
            for faults in range(4):
                states = States(program, updates, 'right', faults)
                value = paper(program, updates, 'right', faults)
                right = far is not None and faults <= far
                self.assertEqual((states.stale_uses() == [], value is not None, is_right(program, updates, 'right', faults)),
                                 (right, right, right))
                if right:
                    self.assertTrue(is_paper(program, updates, value, 'right', faults))
                for use in states.stale_uses():
                    entry, choices, missed = states.stale(*use)
                    self.assertLessEqual(len(missed), faults)
                    self.assertIn(use, ByHand(program, updates, entry, choices, missed).stale)
                    shown += 1
        self.assertGreater(shown, 50)


class Together(unittest.TestCase):
    def test_written_updates_have_a_paper_too(self):
        draws = Draws(143)
        for at in range(60):
            program = drawn_program(draws, most_extent=15)
            updates = drawn_updates(draws, program, 6)
            written = updated(program, updates)
            start = ('right', 'any')[at % 2]
            value = paper(program, updates, start)
            self.assertEqual(paper(written, (), start), value)
            if value is not None:
                self.assertTrue(is_paper(written, (), value, start))

    def test_labels_cost_at_least_as_much(self):
        """Updates that keep the labels make all uses right, so the cheapest of the same actions cost no more."""
        draws = Draws(144)
        tried = 0
        while tried < 40:
            program = drawn_program(draws, base=2, kept=1, most_extent=15)
            some = tuple(candidates(program))
            if not 1 <= len(some) <= 8:
                continue
            tried += 1
            start = ('right', 'any')[tried % 2]
            updates, _ = coarse(program, 'k', start=start)
            self.assertTrue(is_right(program, updates, start))
            value = cheapest_paper(program, some, start=start)
            self.assertLessEqual(cost(program, value[0]), cost(program, updates))
            self.assertTrue(is_cheapest(program, some, value, start=start))

    def test_carried_everywhere(self):
        draws = Draws(145)
        for _ in range(60):
            program = drawn_program(draws, base=2, kept=3, most_extent=30, fresh=False)
            every = tuple(sorted(action for kept in program.kept for action in all_carried(program, kept)))
            states = States(program, every)
            self.assertEqual((states.stale_uses(), states.right_at_end()), ([], list(program.kept)))
            for name in program.procedures:
                for place, _ in program.statements(name):
                    for kept in program.kept:
                        self.assertTrue(states.is_right(name, place, kept))

    def test_arguments_are_not_changed(self):
        program = Program.read('base a kept k = a handlers h def main { a = 1 while { pause } tell k } def h { a = ? }')
        tree = program.tree()
        updates = tuple(candidates(program))
        before = repr(updates)
        weights, choices = {('main', 0): 3}, [1, 1, 5, 0]
        machine = Machine(program, updates)
        machine((0,), choices)
        machine.stale((0,), choices, (0,))
        list(machine.runs((0,), 3))
        States(program, updates, 'any', 2)
        cheapest_paper(program, updates, weights=weights)
        coarse(program, 'k', weights=weights)
        self.assertEqual((program.tree(), repr(updates), weights, choices), (tree, before, {('main', 0): 3}, [1, 1, 5, 0]))


if __name__ == '__main__':
    unittest.main()
