import itertools
import unittest

from draws import Draws
from freshplaces.actions import candidates, cost
from freshplaces.errors import InvalidAction, InvalidFormula, InvalidWeights, UnknownName
from freshplaces.labels import coarse, flow_amount, keeps_labels
from freshplaces.networks import Network
from freshplaces.programs import Program
from freshplaces.states import States
from programs_drawn import drawn_program
from strange import Agreeing, strange_values
from waysbyhand import Ways

LOOP = Program.read('base x y kept k = x + y kept far = k def main { while { x = x + 1 } tell k }')
FLOW = (((('come', 'main', 2), ('ready', 'main', 2)), 2), ((('gone', 'main', 0), ('come', 'main', 2)), 2),
        ((('gone', 'main', 1), ('gone', 'main', 0)), 2), ((('ready', 'main', 2), ('fresh',)), 2),
        ((('stale',), ('gone', 'main', 1)), 2))


class Example(unittest.TestCase):
    def test_of_the_document(self):
        program = Program.read('base x y kept k = x + y def main { while { x = x + 1 } tell k }')
        updates, flow = coarse(program, 'k', weights={('main', 1): 100})
        self.assertEqual((updates, flow_amount(program, 'k', flow, weights={('main', 1): 100})),
                         ((('fresh', 'main', 2, 'k'),), 3))


class KeepsLabels(unittest.TestCase):
    def check(self, text, updates, wanted, start='right'):
        self.assertIs(keeps_labels(Program.read(text), 'k', updates, start=start), wanted, text)

    def test_changes_and_uses(self):
        head = 'base a b kept k = a kept j = b '
        for text, wanted in [('def main { tell k }', True), ('def main { a = 1 tell k }', False), ('def main { b = 1 tell k }', True),
                             ('def main { a = ? tell k }', False), ('def main { a = a tell k }', False),
                             ('def main { tell k a = 1 }', True), ('def main { a = 1 carry k tell k }', True),
                             ('def main { a = 1 fresh k tell k }', True), ('def main { a = 1 fresh j tell k }', False),
                             ('def main { a = 1 a = 2 carry k tell k }', False), ('def main { a = k tell b }', True),
                             ('def main { a = 1 b = k }', False), ('def main { a = 1 tell j }', True),
                             ('def main { while { tell k a = 1 } }', False), ('def main { while { tell k a = 1 fresh k } }', True),
                             ('def main { if { a = 1 } tell k }', False), ('def main { if { a = 1 } else { tell k } }', True),
                             ('def main { if { a = 1 } fresh k tell k }', True), ('def main { a = 1 if { fresh k } tell k }', False),
                             ('def main { a = 1 if { fresh k } else { fresh k } tell k }', True),
                             ('def main { a = 1 while { fresh k } tell k }', False)]:
            self.check(head + text, (), wanted)

    def test_the_start(self):
        for text, wanted in [('tell k', False), ('fresh k tell k', True), ('a = 1 carry k tell k', False), ('a = 1', True),
                             ('if { } tell k', False)]:
            self.check('base a kept k = a def main { ' + text + ' }', (), wanted, 'any')
        self.check('base a kept k = a def main { tell k }', (('fresh', 'main', 0, 'k'),), True, 'any')

    def test_updates(self):
        text = 'base a kept k = a def main { a = 1 while { tell k a = a + k } }'
        first, second, early, late, inner = (('carry', 'main', 0, 'k'), ('carry', 'main', 3, 'k'), ('fresh', 'main', 1, 'k'),
                                             ('fresh', 'main', 2, 'k'), ('fresh', 'main', 3, 'k'))
        for updates, wanted in [((first, second), True), ((first, late), True), ((second, early), True), ((early,), False),
                                ((late,), True), ((inner,), False), ((first, inner), False), ((first,), False)]:
            self.check(text, updates, wanted)

    def test_ways_go_behind_any_call(self):
        text = 'base a kept k = a def main { call p tell k a = 1 call p } def p { tell a }'
        self.check(text, (), False)
        self.assertEqual(States(Program.read(text)).stale_uses(), [])
        self.check(text, (('fresh', 'p', 0, 'k'),), True)
        self.check(text, (('fresh', 'main', 3, 'k'),), True)

    def test_handlers(self):
        text = 'base a kept k = a handlers h i def main { pause tell k } def h { a = 1 } def i { fresh k }'
        self.check(text, (), False)
        self.check(text, (('carry', 'h', 0, 'k'),), True)
        self.check(text.replace('handlers h i', 'handlers i'), (), True)
        self.check('base a kept k = a handlers h def main { a = 1 pause tell k } def h { fresh k }', (), False)

    def test_empty_blocks_and_procedures(self):
        self.check('base a kept k = a def main { a = 1 call p while { } if { } pause tell k } def p { }', (), False)
        self.check('base a kept k = a def main { a = 1 call p tell k } def p { fresh k }', (), True)

    def test_unreached_procedures(self):
        self.check('base a kept k = a def main { tell k } def p { a = 1 tell k }', (), True)
        self.check('base a kept k = a def main { tell k } def p { a = 1 tell k }', (('fresh', 'p', 1, 'k'),), True)

    def test_a_formula_without_variables(self):
        self.check('base a kept k = 7 def main { a = 1 tell k }', (), True)
        self.check('base a kept k = 7 def main { a = 1 tell k }', (), False, 'any')

    def test_updates_of_other_kept_variables(self):
        self.check('base a kept k = a kept j = a def main { a = 1 tell k }', (('carry', 'main', 0, 'j'), ('fresh', 'main', 1, 'j')), False)

    def test_against_all_ways(self):
        draws = Draws(121)
        found = [0, 0]
        for at in range(600):
            program = drawn_program(draws, base=2, kept=draws.between(1, 2), procedures=draws.between(1, 5))
            start = ('right', 'any')[at % 2]
            every = candidates(program)
            updates = tuple(action for action in every if draws.below(3) == 0)
            for kept in program.kept:
                if set(name for name, _ in program.formula(kept)[1]) <= set(program.base):
                    wanted = Ways(program).keep(kept, updates, start)
                    self.assertIs(keeps_labels(program, kept, updates, start=start), wanted, program.tree())
                    found[wanted] += 1
                    if wanted:
                        states = States(program, updates, start)
                        self.assertEqual([use for use in states.stale_uses() if use[2] == kept], [])
        self.assertGreater(min(found), 100)


class Coarse(unittest.TestCase):
    def check(self, program, kept, weights, start):
        before = dict(weights or {})
        updates, flow = coarse(program, kept, weights=weights, start=start)
        self.assertEqual(weights or {}, before)
        self.assertEqual((type(updates), type(flow)), (tuple, tuple))
        total = cost(program, updates, weights)
        self.assertEqual(list(flow), sorted(flow))
        self.assertIs(keeps_labels(program, kept, updates, start=start), True)
        self.assertTrue(Ways(program).keep(kept, updates, start))
        self.assertEqual({action[3] for action in updates} - {kept}, set())
        self.assertEqual(flow_amount(program, kept, flow, weights=weights, start=start), total)
        self.assertEqual(flow_amount(program, kept, flow[::-1], weights=weights, start=start), total)
        self.assertEqual(coarse(program, kept, weights=weights, start=start), (updates, flow))
        return total

    def test_against_all_sets_of_updates(self):
        draws = Draws(122)
        tried = 0
        totals = set()
        while tried < 120:
            program = drawn_program(draws, base=2, kept=1, procedures=draws.between(1, 5), depth=3, many=3)
            every = candidates(program)
            if not 2 <= len(every) <= 9 or not program.uses(program.start):
                continue
            tried += 1
            start = ('right', 'any')[tried % 2]
            spots = [action[1:3] for action in every]
            weights = draws.one_of([None, {}, {draws.one_of(spots): 0, draws.one_of(spots): 1000},
                                    {spot: draws.below(4) for spot in spots}, {spot: 0 for spot in spots}])
            ways = Ways(program)
            least = min(cost(program, updates, weights) for many in range(len(every) + 1)
                        for updates in itertools.combinations(every, many) if ways.keep('k', updates, start))
            self.assertEqual(self.check(program, 'k', weights, start), least)
            totals.add(least)
        self.assertGreater(len(totals), 5)

    def test_large_programs(self):
        draws = Draws(123)
        for at in range(25):
            program = drawn_program(draws, base=4, kept=1, procedures=5, depth=6, many=8)
            spots = [(name, place) for name in program.procedures for place, _ in program.statements(name)]
            weights = {spot: draws.one_of([0, 1, 5, 10 ** 40]) for spot in spots}
            self.check(program, 'k', draws.one_of([None, weights]), ('right', 'any')[at % 2])

    def test_great_weights(self):
        program = Program.read('base a kept k = a def main { while { a = ? } if { tell k } else { tell k } }')
        spots = [('main', place) for place in range(5)]
        for great in itertools.product([1, 10 ** 50], repeat=5):
            weights = dict(zip(spots, great))
            wanted = min(3 * great[1], 2 * great[2], 2 * great[3] + 2 * great[4])
            self.assertEqual(self.check(program, 'k', weights, 'right'), wanted)

    def test_a_flow_that_has_to_give_way(self):
        """The first change has a short way to the last use, which is the only one that the second change reaches."""
        program = Program.read('base a b kept k = a def main { if { a = 1 if { tell b tell b tell b tell k } else { } } '
                               'else { a = 2 tell b tell b tell b } tell k }')
        for weights, wanted in [(None, 4), ({('main', 1): 3}, 4), ({('main', 1): 3, ('main', 2): 3, ('main', 11): 2}, 6), ({('main', 6): 0}, 2),
                                ({('main', 7): 5, ('main', 1): 9, ('main', 2): 9, ('main', 11): 7}, 16)]:
            self.assertEqual(self.check(program, 'k', weights, 'right'), wanted)

    def test_flows_in_bushy_programs(self):
        """Changes in many branches, each of which reaches some of the uses."""
        draws = Draws(124)
        for _ in range(150):
            parts = ['if { a = 1 ' + 'tell b ' * draws.below(3) + '} ' for _ in range(3)]
            inner = ''.join('if { ' + draws.one_of(['a = ? ', 'tell b ', 'fresh k ']) + draws.one_of(['tell k ', 'tell b tell b ', ''])
                            + '} else { ' + draws.one_of(['tell k ', 'a = 2 ', 'tell b ']) + '} ' for _ in range(4))
            text = 'base a b kept k = a def main { ' + ''.join(parts) + inner + 'call p tell k } def p { ' + inner + '}'
            program = Program.read(text)
            spots = [(name, place) for name in program.procedures for place, _ in program.statements(name)]
            self.check(program, 'k', {spot: draws.below(6) for spot in spots}, ('right', 'any')[draws.below(2)])

    def test_nothing_to_do(self):
        for text in ['def main { }', 'def main { tell k }', 'def main { a = 1 fresh k tell k }', 'def main { a = 1 }']:
            self.assertEqual(coarse(Program.read('base a kept k = a ' + text), 'k'), ((), ()))
        self.assertEqual(coarse(program=LOOP, kept='k'), ((('carry', 'main', 1, 'k'),), FLOW))

    def test_the_start(self):
        program = Program.read('base a kept k = a def main { if { tell k } else { tell k } }')
        self.assertEqual(coarse(program, 'k')[0], ())
        self.assertEqual(coarse(program, 'k', start='any')[0], (('fresh', 'main', 0, 'k'),))
        self.assertEqual(coarse(program, 'k', start='any', weights={('main', 0): 3})[0],
                         (('fresh', 'main', 1, 'k'), ('fresh', 'main', 2, 'k')))


class FlowAmount(unittest.TestCase):
    def test_by_hand(self):
        self.assertEqual(flow_amount(LOOP, 'k', FLOW), 2)
        self.assertEqual(flow_amount(LOOP, 'k', FLOW[::-1]), 2)
        self.assertEqual(flow_amount(program=LOOP, kept='k', value=()), 0)
        self.assertEqual(flow_amount(LOOP, 'k', tuple((pair, 1) for pair, _ in FLOW)), 1)
        self.assertIs(flow_amount(LOOP, 'k', tuple((pair, 3) for pair, _ in FLOW)), None)
        self.assertEqual(flow_amount(LOOP, 'k', tuple((pair, 3) for pair, _ in FLOW), weights={('main', 1): 2}), 3)
        self.assertIs(flow_amount(LOOP, 'k', tuple((pair, 4) for pair, _ in FLOW), weights={('main', 1): 2}), None)
        self.assertEqual(flow_amount(LOOP, 'k', tuple((pair, 4) for pair, _ in FLOW), weights={('main', 1): 2, ('main', 2): 2}), 4)
        self.assertIs(flow_amount(LOOP, 'k', FLOW, weights={('main', 2): 0}), None)

    def test_around_a_loop(self):
        """What goes round in a circle is part of a flow, but not of its amount."""
        around = ((('gone', 'main', 0), ('come', 'main', 1)), (('come', 'main', 1), ('ready', 'main', 1)),
                  (('ready', 'main', 1), ('gone', 'main', 1)), (('gone', 'main', 1), ('gone', 'main', 0)))
        self.assertEqual(flow_amount(LOOP, 'k', tuple((pair, 3) for pair in around)), 0)
        self.assertIs(flow_amount(LOOP, 'k', tuple((pair, 4) for pair in around)), None)
        self.assertEqual(flow_amount(Program.read('base a kept k = a def main { while { } }'), 'k',
                                     (((('gone', 'main', 0), ('gone', 'main', 0)), 10 ** 30),)), 0)

    def test_one_amount_more_or_less(self):
        for at, (pair, amount) in enumerate(FLOW):
            for other in (amount - 1, amount + 1, 0, -2, True, False, None, 2.0, '2', (2,)):
                self.assertIs(flow_amount(LOOP, 'k', FLOW[:at] + ((pair, other),) + FLOW[at + 1:]), None)

    def test_amounts_of_nothing(self):
        for pair in [(('come', 'main', 1), ('ready', 'main', 1)), (('ready', 'main', 0), ('gone', 'main', 0))]:
            for amount in (0, False, -1):
                self.assertIs(flow_amount(LOOP, 'k', FLOW + ((pair, amount),)), None)
                self.assertIs(flow_amount(LOOP, 'k', ((pair, amount),)), None)

    def test_parts_left_out_or_doubled(self):
        for at, part in enumerate(FLOW):
            self.assertIs(flow_amount(LOOP, 'k', FLOW[:at] + FLOW[at + 1:]), None)
            self.assertIs(flow_amount(LOOP, 'k', FLOW + (part,)), None)
            self.assertIs(flow_amount(LOOP, 'k', FLOW[:at] + ((part[0], 1), (part[0], 1)) + FLOW[at + 1:]), None)

    def test_unknown_points_and_pairs(self):
        for pair in [(('come', 'main', 0), ('ready', 'main', 9)), (('come', 'main', 9), ('ready', 'main', 9)),
                     (('come', 'q', 0), ('ready', 'q', 0)), (('stale',), ('fresh',)), (('stale',), ('stale',)), (('fresh',), ('stale',)),
                     (('begin', 'main'), ('end', 'main')), (('gone', 'main', 2), ('come', 'main', 0)), (('come', 'main'), ('ready', 'main')),
                     (('begin', 'main', 0), ('come', 'main', 0)), (('come', 'main', True), ('ready', 'main', True)),
                     (('ready', 'main', 0), ('gone', 'main', False)), (('x',), ('y',)), ((), ()), (('stale', 'main'), ('gone', 'main', 1)),
                     (('stale',), ('begin', 'main')), (('stale',), ('gone', 'main', 2)), (('ready', 'main', 1), ('fresh',))]:
            self.assertIs(flow_amount(LOOP, 'k', ((pair, 1),)), None, pair)
            self.assertIs(flow_amount(LOOP, 'k', FLOW + ((pair, 1),)), None, pair)

    def test_any_value(self):
        pair = FLOW[0][0]
        changed = [list(FLOW), tuple(list(part) for part in FLOW), tuple((list(pair), amount) for pair, amount in FLOW),
                   tuple(((list(one), other), amount) for (one, other), amount in FLOW), dict(FLOW), FLOW[0], FLOW[0][0],
                   (FLOW,), ((),), ((pair,),), ((pair, 2, 2),), (((pair[0],), 2),), ((pair + pair, 2),), ((Agreeing(), 2),),
                   (((Agreeing(), Agreeing()), 2),), ((pair, Agreeing()),), ((('come', []), 2),), (((['come'], {}), 2),),
                   (((({},), (set(),)), 2),), (((('come', 'main', []), ('ready', 'main', 2)), 2),),
                   (((('come', b'main', 2), ('ready', 'main', 2)), 2),), (((('come', 'main', 2.0), ('ready', 'main', 2)), 2),)]
        for value in [*[value for value in strange_values() if value != () or isinstance(value, Agreeing)], *changed, 'x', ('x',)]:
            self.assertIs(flow_amount(LOOP, 'k', value), None)

    def test_pairs_of_each_kind(self):
        program = Program.read('base a kept k = a kept j = a handlers h def main { call p pause if { tell k } else { } fresh k fresh j '
                               'a = 1 carry k a = k } def p { while { a = ? } } def h { } def far { a = 1 tell k }')
        chains = [
            ('stale', ('gone', 'p', 1), ('gone', 'p', 0), ('end', 'p'), ('gone', 'main', 0), ('come', 'main', 1), ('ready', 'main', 1),
             ('begin', 'h'), ('end', 'h'), ('gone', 'main', 1), ('come', 'main', 2), ('ready', 'main', 2), ('come', 'main', 3),
             ('ready', 'main', 3), 'fresh'),
            ('stale', ('gone', 'p', 1), ('gone', 'p', 0), ('come', 'p', 1), ('ready', 'p', 1), ('gone', 'p', 1)),
            ('stale', ('gone', 'main', 7), ('end', 'main')),
            (('begin', 'main'), ('come', 'main', 0), ('ready', 'main', 0), ('begin', 'p'), ('come', 'p', 0), ('ready', 'p', 0), ('gone', 'p', 0)),
            (('ready', 'main', 1), ('gone', 'main', 1)), (('ready', 'main', 2), ('gone', 'main', 2)), (('ready', 'main', 3), ('gone', 'main', 3)),
            (('gone', 'main', 3), ('gone', 'main', 2), ('come', 'main', 4), ('ready', 'main', 4)),
            (('gone', 'main', 4), ('come', 'main', 5), ('ready', 'main', 5), ('gone', 'main', 5), ('come', 'main', 6), ('ready', 'main', 6),
             ('gone', 'main', 6), ('come', 'main', 7), ('ready', 'main', 7), 'fresh'), (('ready', 'main', 7), ('gone', 'main', 7))]
        wanted = set()
        for chain in chains:
            points = [(point,) if isinstance(point, str) else point for point in chain]
            wanted |= set(zip(points, points[1:]))
        points = sorted({point for pair in wanted for point in pair})
        points += [(word, 'far', place) for word in ('come', 'ready', 'gone') for place in (0, 1)] + [('begin', 'far'), ('end', 'far')]
        self.assertEqual(set(self.pairs(program, points, 'right')), wanted)
        self.assertEqual(set(self.pairs(program, points, 'any')), wanted | {(('stale',), ('begin', 'main'))})

    def pairs(self, program, points, start):
        """All pairs of a program, which are pairs of these points."""
        bounds = Network(program, 'k', None, start).bounds
        self.assertTrue(all(one in points and other in points for one, other in bounds))
        return bounds


class Errors(unittest.TestCase):
    bad_weights = [0, [], (), 'x', {1: 1}, {('main', 9): 1}, {('main', 0): -1}, {('main', 0): True}, {('main', True): 1}, Agreeing()]
    bad_starts = ['left', '', None, 0, ('right',), Agreeing()]
    bad_updates = [[], None, ('x',), (('fresh', 'main', 2, 'k'),) * 2, Agreeing(), (('fresh', 'main', 2, 'k'), ('carry', 'main', 1, 'k'))]

    def calls(self, kept, weights=None, start='right', updates=()):
        yield lambda: coarse(LOOP, kept, weights=weights, start=start)
        yield lambda: flow_amount(LOOP, kept, None, weights=weights, start=start)
        if weights is None:
            yield lambda: keeps_labels(LOOP, kept, updates, start=start)

    def test_kept_variables(self):
        for kept in [*strange_values(), 'x', 'main', '', 'K', ('k',)]:
            for weights, start, updates in [(None, 'right', ()), ([], 'left', ()), (None, 'left', [])]:
                for call in self.calls(kept, weights, start, updates):
                    with self.assertRaises(UnknownName) as caught:
                        call()
                    self.assertIs(caught.exception.name, kept)

    def test_formulas(self):
        for weights, start, updates in [(None, 'right', ()), ([], 'left', ()), (None, 'left', [])]:
            for call in self.calls('far', weights, start, updates):
                with self.assertRaises(InvalidFormula) as caught:
                    call()
                self.assertEqual(caught.exception.value, 'far')

    def test_weights(self):
        for weights in self.bad_weights:
            for start in ['right', *self.bad_starts]:
                for call in self.calls('k', weights, start):
                    with self.assertRaises(InvalidWeights) as caught:
                        call()
                    self.assertIs(caught.exception.value, weights)

    def test_starts(self):
        for start in self.bad_starts:
            for updates in [(), *self.bad_updates]:
                for call in self.calls('k', None, start, updates):
                    with self.assertRaises(UnknownName) as caught:
                        call()
                    self.assertIs(caught.exception.name, start)

    def test_updates(self):
        for updates in self.bad_updates:
            with self.assertRaises(InvalidAction):
                keeps_labels(program=LOOP, kept='k', updates=updates)

    def test_keywords_alone(self):
        for call in [lambda: coarse(LOOP, 'k', None), lambda: flow_amount(LOOP, 'k', (), None), lambda: keeps_labels(LOOP, 'k', (), 'any')]:
            with self.assertRaises(TypeError):
                call()


if __name__ == '__main__':
    unittest.main()
