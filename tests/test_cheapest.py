import itertools
import unittest

from byhand import ByHand, TooLong
from draws import Draws
from freshplaces.actions import candidates, cost
from freshplaces.carries import all_carried
from freshplaces.cheapest import cheapest, cheapest_paper, harmful, is_cheapest, spare
from freshplaces.machine import Machine
from freshplaces.papers import is_paper, paper
from freshplaces.programs import Program
from freshplaces.states import is_right
from programs_drawn import drawn_program, drawn_updates
from strange import Agreeing, strange_values

EXAMPLE = Program.read('base x kept k = x def main { x = x + 1 fresh k x = x - 1 tell k }')
LOOP = Program.read('base a kept k = a def main { a = ? while { a = a + 1 } tell k }')
SOME = tuple(candidates(LOOP))


def in_order(program, some, weights):
    """All updates of some candidates, in their order."""
    every = [indexes for many in range(len(some) + 1) for indexes in itertools.combinations(range(len(some)), many)]
    found = [tuple(some[index] for index in indexes) for indexes in sorted(
        every, key=lambda indexes: (cost(program, tuple(some[index] for index in indexes), weights), indexes))]
    return found


def refutes(program, updates, run):
    """Whether a run makes a use of what is not right with these updates, by hand and by the machine."""
    entry, choices, missed = run
    by_machine = Machine(program, updates).stale(entry, list(choices), missed)
    assert by_machine == ByHand(program, updates, entry, choices, missed).stale
    return bool(by_machine)


class Example(unittest.TestCase):
    def test_of_the_document(self):
        self.assertEqual(cheapest(EXAMPLE, tuple(candidates(EXAMPLE)))[0], (('carry', 'main', 2, 'k'),))


class Checked(unittest.TestCase):
    def check(self, program, some, weights, start, faults):
        before = dict(weights or {})
        updates, runs = cheapest(program, some, weights=weights, start=start, faults=faults)
        self.assertEqual((type(runs), weights or {}), (list, before))
        ordered = in_order(program, some, weights)
        right = [one for one in ordered if is_right(program, one, start, faults)]
        self.assertEqual(updates, right[0] if right else None)
        self.check_runs(program, runs, start, faults)
        for one in ordered[:ordered.index(updates)] if right else ordered:
            self.assertTrue(any(refutes(program, one, run) for run in runs), one)
        value = cheapest_paper(program, some, weights=weights, start=start, faults=faults)
        self.assertEqual((type(value), value[0], value[1]), (tuple, updates, tuple(runs)))
        if right:
            self.assertTrue(is_paper(program, updates, value[2], start, faults))
        else:
            self.assertIs(value[2], None)
        self.assertIs(is_cheapest(program, some, value, weights=weights, start=start, faults=faults), True)
        self.assertEqual(cheapest(program, some, weights=weights, start=start, faults=faults), (updates, runs))
        return value

    def check_runs(self, program, runs, start, faults):
        length = len(program.base) if start == 'right' else len(program.base + program.kept)
        for run in runs:
            self.assertEqual([type(part) for part in run], [tuple] * 3)
            self.assertEqual((type(run), len(run[0])), (tuple, length))
            self.assertLessEqual(len(run[2]), faults)


class Cheapest(Checked):
    def test_drawn(self):
        draws = Draws(131)
        found = [0, 0]
        for at in range(120):
            program = drawn_program(draws, base=draws.between(1, 2), kept=draws.between(1, 2), most_extent=14)
            every = tuple(sorted(set(drawn_updates(draws, program, 6))
                                 | {action for kept in program.kept for action in all_carried(program, kept)[:2] if draws.below(2)}))
            some = every[:draws.between(4, 7)]
            spots = [action[1:3] for action in some] or [('main', 0)]
            weights = draws.one_of([None, None, {}, {draws.one_of(spots): 0}, {spot: draws.below(5) for spot in spots}])
            value = self.check(program, some, weights, ('right', 'right', 'any')[at % 3], (0, 0, 1, 2, 3)[at % 5])
            found[value[0] is not None] += 1
        self.assertGreater(min(found), 20)

    def test_equal_costs_by_indexes(self):
        program = Program.read('base a kept k = a def main { a = 1 tell a tell a tell k }')
        some = tuple(('fresh', 'main', place, 'k') for place in (1, 2, 3))
        self.assertEqual(self.check(program, some, None, 'right', 0)[0], some[:1])
        self.assertEqual(self.check(program, some, {('main', 1): 2}, 'right', 0)[0], some[1:2])
        self.assertEqual(self.check(program, some, None, 'right', 1)[0], some[:2])
        self.assertEqual(self.check(program, some, None, 'right', 2)[0], some)
        self.assertEqual(self.check(program, some, None, 'right', 3)[0], None)

    def test_weight_zero(self):
        program = Program.read('base a kept k = a def main { a = 1 tell a tell k }')
        first, second = (('fresh', 'main', place, 'k') for place in (1, 2))
        self.assertEqual(self.check(program, (first, second), {('main', 1): 0, ('main', 2): 0}, 'right', 0)[0], (first,))
        self.assertEqual(self.check(program, (first, second), {('main', 2): 0}, 'right', 0)[0], (second,))
        # All sets cost 0; () is the first, and one with the first action comes before the second one alone.
        self.assertEqual(self.check(program, (first, second), {('main', 1): 0, ('main', 2): 0}, 'right', 1)[0], (first, second))

    def test_longer_updates_with_smaller_indexes_come_first(self):
        program = Program.read('base a b kept k = a kept j = b def main { a = 1 b = 1 tell k + j fresh k fresh j }')
        some = (('carry', 'main', 0, 'k'), ('carry', 'main', 1, 'j'), ('fresh', 'main', 2, 'j'), ('fresh', 'main', 2, 'k'))
        for weights, wanted in [(None, (0, 1)), ({('main', 2): 0}, (2, 3)), ({('main', 0): 0, ('main', 1): 0, ('main', 2): 0}, (0, 1)),
                                ({('main', 1): 2}, (0, 2)), ({('main', 0): 3}, (1, 3))]:
            self.assertEqual(self.check(program, some, weights, 'right', 0)[0], tuple(some[index] for index in wanted))

    def test_none(self):
        value = self.check(LOOP, SOME[:1] + (('fresh', 'main', 1, 'k'),), None, 'any', 0)
        self.assertEqual((value[0], value[2]), (None, None))
        self.assertEqual(self.check(LOOP, (), None, 'right', 0)[0], None)
        self.assertEqual(self.check(Program.read('base a def main { tell a }'), (), None, 'any', 3), ((), (), ()))

    def test_updates_can_make_it_worse(self):
        program = Program.read('base a b kept k = a - b def main { a = a + 1 b = b + 1 tell k }')
        some = tuple(candidates(program))
        self.assertEqual(self.check(program, some, None, 'right', 0)[0], ())
        self.assertEqual(cheapest(program, some)[1], [])

    def test_twelve_candidates(self):
        program = Program.read('base a b kept k = a + b def main { a = ? b = ? while { a = a + b b = b - 1 } tell k a = k tell k }')
        some = tuple(candidates(program))
        self.assertEqual(len(some), 13)
        for start, faults, left in [('right', 0, 0), ('any', 1, 12), ('right', 2, 3)]:
            value = cheapest_paper(program, some[:left] + some[left + 1:], start=start, faults=faults)
            self.assertTrue(is_cheapest(program, some[:left] + some[left + 1:], value, start=start, faults=faults))
        self.check(program, some[1:], {('main', 5): 9, ('main', 7): 9}, 'right', 0)

    def test_large(self):
        text = ('base a b c d kept k = a + b kept j = k + c handlers h def main { ' + 'call p pause ' * 4 + 'tell k + j } def p { '
                + 'a = a + c if { c = ? } while { b = ? call q } tell k ' * 2 + '} def q { d = d + 1 while { c = c + d tell a } tell j } '
                'def h { a = ? d = ? }')
        program = Program.read(text)
        some = tuple(action for action in candidates(program) if action[0] == 'carry')[:12]
        value = cheapest_paper(program, some)
        self.assertTrue(is_cheapest(program, some, value))
        self.assertTrue(any(refutes(program, (), run) for run in value[1]))

    def test_the_list_is_new(self):
        cheapest(LOOP, SOME)[1].clear()
        self.assertTrue(cheapest(LOOP, SOME)[1])


class IsCheapest(unittest.TestCase):
    def setUp(self):
        self.value = cheapest_paper(LOOP, SOME)
        self.updates, self.runs, self.paper = self.value

    def accepts(self, value, some=SOME, **others):
        return is_cheapest(LOOP, some, value, **others)

    def test_written_by_hand(self):
        # Each run changes a once, which all that are cheaper leave stale, or change twice.
        self.assertEqual(self.updates, (('fresh', 'main', 3, 'k'),))
        self.assertTrue(self.accepts((self.updates, (((0,), (1, 0), ()), ((0,), (0, 1, 0), ())), self.paper)))
        self.assertTrue(self.accepts(value=(self.updates, (((5,), (-7, 3, 2, 0, 9, 9), ()),) + self.runs * 2, self.paper)))
        self.assertFalse(self.accepts((self.updates, (((0,), (0, 0), ()),), self.paper)))
        # What carries at the input, at cost 3, is not before the updates, at cost 2: one run may do.
        self.assertTrue(self.accepts((self.updates, (((0,), (1, 1), ()),), self.paper)))
        self.assertFalse(self.accepts((self.updates, (), self.paper)))

    def test_other_updates(self):
        for updates in [(), SOME, SOME[:1], SOME[1:], None, list(self.updates), self.updates * 2, self.updates[0], 'x', (None,), Agreeing(),
                        (Agreeing(),), (list(self.updates[0]),), (('fresh', 'main', 3, 'j'),), (('fresh', 'main', True, 'k'),),
                        SOME[::-1]]:
            self.assertIs(self.accepts((updates, self.runs, self.paper)), False, updates)

    def test_updates_that_are_not_of_the_candidates(self):
        self.assertFalse(self.accepts(self.value, SOME[:-1] if SOME[-1] == self.updates[0] else
                                      tuple(action for action in SOME if action not in self.updates)))

    def test_right_but_not_the_cheapest(self):
        for updates in [tuple(sorted({('carry', 'main', 0, 'k'), ('carry', 'main', 2, 'k')})), SOME]:
            self.assertTrue(is_right(LOOP, updates))
            self.assertFalse(self.accepts((updates, self.runs, paper(LOOP, updates))))
        weights = {('main', 3): 9}
        other = cheapest_paper(LOOP, SOME, weights=weights)
        self.assertNotEqual(other[0], self.updates)
        self.assertTrue(self.accepts(other, weights=weights))
        self.assertFalse(self.accepts(other))
        self.assertFalse(self.accepts(self.value, weights=weights))

    def test_a_run_less_that_is_needed(self):
        draws = Draws(133)
        tried = 0
        while tried < 30:
            program = drawn_program(draws, base=2, kept=2, most_extent=14)
            some = tuple(candidates(program))[:7]
            start = ('right', 'any')[tried % 2]
            value = cheapest_paper(program, some, start=start)
            updates, runs, shown = value
            if len(runs) < 2:
                continue
            tried += 1
            ordered = in_order(program, some, None)
            before = ordered if updates is None else ordered[:ordered.index(updates)]
            for at in range(len(runs)):
                left = runs[:at] + runs[at + 1:]
                wanted = all(any(refutes(program, one, run) for run in left) for one in before)
                self.assertIs(is_cheapest(program, some, (updates, left, shown), start=start), wanted)
            self.assertTrue(is_cheapest(program, some, (updates, runs[::-1], shown), start=start))

    def test_entries_of_the_other_start(self):
        self.assertFalse(self.accepts((self.updates, (((0, 0), (1, 1), ()),), self.paper)))
        self.assertFalse(self.accepts((self.updates, self.runs + (((0, 0), (1, 1), ()),), self.paper)))
        value = cheapest_paper(LOOP, SOME, start='any')
        self.assertTrue(self.accepts(value, start='any'))
        self.assertFalse(self.accepts(value))
        self.assertFalse(self.accepts((value[0], value[1] + (((0,), (1, 1), ()),), value[2]), start='any'))

    def test_too_many_missed(self):
        run = ((0,), (1, 1), ())
        for missed, faults, wanted in [((), 0, True), ((0,), 0, False), ((0,), 1, True), ((0, 1), 1, False), ((0, 5), 2, True),
                                       ((0, 1, 2), 3, True), ((0, 1, 2, 3), 3, False), ((1, 0), 3, False), ((0, 0), 3, False),
                                       ((-1,), 3, False), ([0], 3, False), ((True,), 3, False), (None, 3, False)]:
            value = cheapest_paper(LOOP, SOME, faults=faults)
            changed = (value[0], value[1] + (run[:2] + (missed,),), value[2])
            self.assertIs(self.accepts(changed, faults=faults), wanted, (missed, faults))

    def test_runs_with_missed_updates_refute(self):
        program = Program.read('base a kept k = a def main { a = 1 tell a tell k }')
        some = (('fresh', 'main', 1, 'k'), ('fresh', 'main', 2, 'k'))
        shown = paper(program, some, 'right', 1)
        self.assertTrue(is_cheapest(program, some, (some, (((0,), (), (0,)),), shown), faults=1))
        self.assertFalse(is_cheapest(program, some, (some, (((0,), (), ()),), shown), faults=1))
        self.assertFalse(is_cheapest(program, some, (some, (((0,), (), (1,)),), shown), faults=1))

    def test_a_run_that_exceeds_the_limit_counts_as_none(self):
        program = Program.read('base a kept k = a def main { a = 1 while { tell a } tell k }')
        some = (('fresh', 'main', 3, 'k'),)
        good, long = ((0,), (), ()), ((0,), (1,) * 4100, ())
        with self.assertRaises(TooLong):
            ByHand(program, (), *long[:2])
        self.assertTrue(is_cheapest(program, some, (some, (good,), paper(program, some))))
        self.assertFalse(is_cheapest(program, some, (some, (long,), paper(program, some))))
        self.assertTrue(is_cheapest(program, some, (some, (long, good), paper(program, some))))
        early = Program.read('base a kept k = a def main { a = 1 tell k while { tell a } }')
        some = (('carry', 'main', 0, 'k'),)
        self.assertFalse(is_cheapest(early, some, (some, (long,), paper(early, some))))
        self.assertTrue(is_cheapest(early, some, (some, (((0,), (1,) * 3990, ()),), paper(early, some))))

    def test_other_papers(self):
        for other in [None, (), (((1, 0, 0),),), self.paper + ((),), [*self.paper], ((),), paper(LOOP, (('carry', 'main', 0, 'k'),
                      ('carry', 'main', 2, 'k'))), Agreeing(), 'x', 0, self.paper[0]]:
            wanted = is_paper(LOOP, self.updates, other)
            self.assertIs(self.accepts((self.updates, self.runs, other)), wanted)
        self.assertFalse(self.accepts((self.updates, self.runs, None)))
        self.assertTrue(self.accepts((self.updates, self.runs, (((1, 0, 0), (0, 1, 0), (0, 0, 1)),))))

    def test_none(self):
        some = tuple(action for action in SOME if action[2] == 0)
        value = cheapest_paper(LOOP, some)
        self.assertEqual(value[::2], (None, None))
        self.assertTrue(self.accepts(value, some))
        for shown in [(), self.paper, ((),), False, 0, Agreeing(), []]:
            self.assertFalse(self.accepts((None, value[1], shown), some))
        self.assertFalse(self.accepts((None, (), None), some))
        self.assertFalse(self.accepts((None, value[1][:0], None), some))
        self.assertFalse(self.accepts((None, self.runs, None)))
        self.assertFalse(self.accepts((None, value[1], None)))
        self.assertFalse(self.accepts((False, value[1], None), some))

    def test_any_value(self):
        run = self.runs[0]
        for other in [list(self.runs), None, 'x', run, 5, {run: 1}, self.runs[0], Agreeing(), [run]]:
            self.assertIs(self.accepts((self.updates, other, self.paper)), False, other)
        self.assertIs(self.accepts((self.updates, self.runs + (run,), self.paper)), True)
        for other in [run[:2], run + ((),), list(run), None, (None, None, None), (), (run[0], list(run[1]), run[2]), {run: 1},
                      (list(run[0]), run[1], run[2]), (run[0], run[1], list(run[2])), (run[0], (True,), run[2]),
                      ((True,), run[1], run[2]), (run[0], (None,), run[2]), (run[0], (1.0,), ()), ((), run[1], run[2]), Agreeing(),
                      (Agreeing(), Agreeing(), Agreeing()), ((0,), (1,)), ((0,), '1', ()), ('0', (1,), ()), ((0,), (1, False), ()),
                      ((0,), None, ()), ((0,), {1: 1}, ()), (None, (1,), ()), ((0,), (1,), None), ((0,), (1,), {}), 'abc', 7]:
            self.assertIs(self.accepts((self.updates, self.runs + (other,), self.paper)), False, other)
        for value in [*strange_values(), list(self.value), self.value[:2], self.value + (None,), self.updates, (self.value,),
                      (None,) * 3, (Agreeing(),) * 3, ((), (), ()), 'abc']:
            self.assertIs(self.accepts(value), False, value)

    def test_drawn_changes(self):
        draws = Draws(134)
        found = [0, 0]
        for at in range(80):
            program = drawn_program(draws, base=2, kept=1, most_extent=14)
            some = tuple(candidates(program))[:6]
            start, faults = ('right', 'any')[at % 2], at % 3
            value = cheapest_paper(program, some, start=start, faults=faults)
            ordered = in_order(program, some, None)
            for one in draws.shuffled(ordered)[:3] + [None]:
                shown = None if one is None else paper(program, one, start, faults)
                changed = (one, value[1], shown)
                before = ordered if one is None else ordered[:ordered.index(one)]
                wanted = (one is None or shown is not None) and all(
                    any(refutes(program, less, run) for run in value[1]) for less in before)
                self.assertIs(is_cheapest(program, some, changed, start=start, faults=faults), wanted)
                if wanted:
                    self.assertEqual(one, value[0])
                found[wanted] += 1
        self.assertGreater(min(found), 10)


class HarmfulAndSpare(unittest.TestCase):
    def test_harmful(self):
        program = Program.read('base a b kept k = a - b def main { a = a + 1 b = b + 1 tell k }')
        run = harmful(program, (), ('carry', 'main', 0, 'k'))
        self.assertTrue(refutes(program, (('carry', 'main', 0, 'k'),), run))
        self.assertEqual([type(part) for part in run], [tuple] * 3)
        self.assertIs(harmful(program, (('carry', 'main', 0, 'k'),), ('carry', 'main', 1, 'k')), None)
        self.assertIs(harmful(program, (), ('fresh', 'main', 2, 'k')), None)
        self.assertIs(harmful(program, (), ('fresh', 'main', 0, 'k')), None)
        self.assertIsNot(harmful(program, (), ('fresh', 'main', 1, 'k')), None)
        # It is not right without it, or it is there already.
        self.assertIs(harmful(program, (('carry', 'main', 0, 'k'),), ('fresh', 'main', 0, 'k')), None)
        both = (('carry', 'main', 0, 'k'), ('carry', 'main', 1, 'k'))
        self.assertIs(harmful(program, both, both[0]), None)
        self.assertIs(harmful(program=program, updates=both, action=both[1], start='right', faults=0), None)

    def test_spare(self):
        program = Program.read('base a kept k = a def main { a = 1 tell a tell k }')
        every = tuple(candidates(program))
        self.assertEqual(spare(program, every), list(every))
        self.assertEqual(spare(program, every[:1]), [])
        self.assertEqual(spare(program, ()), [])
        self.assertEqual(spare(program=program, updates=every, start='any', faults=0), list(every))
        self.assertEqual(spare(program, (every[0], every[3]), faults=0), [every[0], every[3]])
        self.assertEqual(spare(program, (every[0], every[3])), [every[0], every[3]])
        self.assertEqual(spare(program, (every[0], every[3]), faults=1), [])
        self.assertEqual(spare(program, (every[0], every[2], every[3]), faults=1), [every[0], every[2], every[3]])
        worse = Program.read('base a b kept k = a - b def main { a = a + 1 b = b + 1 tell k }')
        self.assertEqual(spare(worse, (('carry', 'main', 0, 'k'),)), [('carry', 'main', 0, 'k')])

    def test_drawn_with_more_than_twelve(self):
        draws = Draws(135)
        many = 0
        for at in range(60):
            program = drawn_program(draws, base=2, kept=2, most_extent=30)
            every = candidates(program)
            updates = tuple(sorted(set(drawn_updates(draws, program, 24))
                                   | {action for kept in program.kept for action in all_carried(program, kept)
                                      if action in every and draws.below(3)}))
            many = max(many, len(updates))
            start, faults = ('right', 'right', 'any')[at % 3], (0, 0, 1, 2, 3)[at % 5]
            self.assertEqual(spare(program, updates, start=start, faults=faults), [
                action for action in updates
                if is_right(program, tuple(other for other in updates if other != action), start, faults)])
            right = is_right(program, updates, start, faults)
            for action in draws.shuffled(every)[:6]:
                run = harmful(program, updates, action, start=start, faults=faults)
                more = tuple(sorted({*updates, action}))
                self.assertEqual(run is not None, right and not is_right(program, more, start, faults))
                if run is not None:
                    self.check_harm(program, more, run, start, faults)
        self.assertGreater(many, 12)

    def check_harm(self, program, updates, run, start, faults):
        self.assertTrue(refutes(program, updates, run))
        self.assertLessEqual(len(run[2]), faults)
        self.assertEqual(len(run[0]), len(program.base) if start == 'right' else len(program.base + program.kept))

    def test_drawn_with_harm(self):
        """Two changes that cancel each other out, between other statements, and updates between them."""
        draws = Draws(136)
        found = 0
        for at in range(60):
            program = drawn_program(draws, base=2, kept=2, most_extent=12, procedures=1)
            tree = program.tree()
            step = draws.one_of([1, 2, -3])
            change = [('set', 'a', (sign * step, (('a', 1),)), ()) for sign in (1, -1)]
            uses = (('tell', (0, (('j', 1), ('k', 1)))),)
            program = program.replaced('main', (change[0], ('tell', (0, ())), change[1]) + uses + tree[3][0][1])
            some = tuple(candidates(program))
            updates = cheapest(program, some[-12:])[0]
            if updates is None:
                continue
            for action in candidates(program):
                run = harmful(program, updates, action)
                more = tuple(sorted({*updates, action}))
                self.assertEqual(run is not None, not is_right(program, more))
                if run is not None:
                    found += 1
                    self.check_harm(program, more, run, 'right', 0)
        self.assertGreater(found, 30)


if __name__ == '__main__':
    unittest.main()
