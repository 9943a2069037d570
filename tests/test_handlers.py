import unittest

from draws import Draws
from freshplaces.actions import candidates
from freshplaces.errors import InvalidAction, InvalidWeights, TooMany, UnknownName
from freshplaces.handlers import blamed, parted, prices, without
from freshplaces.programs import Program
from freshplaces.states import States
from programs_drawn import drawn_program, drawn_updates
from sessionbyhand import price_by_hand
from strange import Agreeing, strange_values

ONE = 'base a kept k = a handlers h def main { pause tell k } def h { a = ? }'


def reached_by(program, name):
    """The procedures that a procedure reaches, and itself."""
    found = [name]
    for other in found:
        for _, statement in program.statements(other):
            called = program.handlers if statement[0] == 'pause' else statement[1:] if statement[0] == 'call' else ()
            found.extend(name for name in called if name not in found)
    return found


class Examples(unittest.TestCase):
    def test_of_the_document(self):
        program = Program.read(ONE)
        some = (('carry', 'h', 0, 'k'), ('fresh', 'main', 1, 'k'))
        self.assertEqual((prices(program, some)['inside'], prices(program, some)['all'], blamed(program)),
                         ((3, (('carry', 'h', 0, 'k'),)), (2, (('fresh', 'main', 1, 'k'),)), [('main', 1, 'k', 'h')]))


class Parted(unittest.TestCase):
    program = Program.read('base a kept k = a handlers h i def main { pause call r } def h { call p } def i { a = 1 } '
                           'def p { call q a = 2 } def q { tell k } def r { a = 3 tell k }')

    def test_in_handlers_in_what_they_reach_and_elsewhere(self):
        inside = (('carry', 'i', 0, 'k'), ('carry', 'p', 1, 'k'), ('fresh', 'h', 0, 'k'), ('fresh', 'q', 0, 'k'))
        outside = (('carry', 'r', 0, 'k'), ('fresh', 'main', 1, 'k'), ('fresh', 'r', 1, 'k'))
        updates = tuple(sorted(inside + outside))
        self.assertEqual(parted(self.program, updates), (inside, outside))
        self.assertEqual(parted(self.program, inside), (inside, ()))
        self.assertEqual(parted(self.program, outside), ((), outside))
        self.assertEqual(parted(self.program, ()), ((), ()))
        self.assertEqual(parted(updates=updates, program=self.program), (inside, outside))

    def test_reached_by_handlers_and_others(self):
        program = Program.read('base a kept k = a handlers h def main { call p pause } def h { call p } def p { a = 1 }')
        updates = (('carry', 'p', 0, 'k'), ('fresh', 'main', 0, 'k'))
        self.assertEqual(parted(program, updates), (updates[:1], updates[1:]))

    def test_handlers_that_no_pause_runs(self):
        program = Program.read('base a kept k = a handlers h def main { call h } def h { a = 1 } def p { a = 2 }')
        updates = (('carry', 'h', 0, 'k'), ('carry', 'p', 0, 'k'))
        self.assertEqual(parted(program, updates), (updates[:1], updates[1:]))
        self.assertEqual(parted(without(program, 'h'), updates), ((), updates))

    def test_drawn(self):
        draws = Draws(211)
        for _ in range(100):
            program = drawn_program(draws, procedures=5, base=2, kept=2)
            updates = drawn_updates(draws, program, 9, unreached=True)
            names = {name for handler in program.handlers for name in reached_by(program, handler)}
            inside, outside = parted(program, updates)
            self.assertEqual(inside, tuple(action for action in updates if action[1] in names))
            self.assertEqual(outside, tuple(action for action in updates if action[1] not in names))


class Prices(unittest.TestCase):
    def test_weights(self):
        program = Program.read(ONE)
        some = tuple(candidates(program))
        self.assertEqual(some, (('carry', 'h', 0, 'k'), ('fresh', 'h', 0, 'k'), ('fresh', 'main', 0, 'k'), ('fresh', 'main', 1, 'k')))
        self.assertEqual(prices(program, some), {
            'all': (2, some[3:]), 'inside': (3, some[:1]), 'outside': (2, some[3:])})
        self.assertEqual(prices(program, some, weights={('main', 1): 2}), {
            'all': (3, some[:1]), 'inside': (3, some[:1]), 'outside': (4, some[3:])})
        self.assertEqual(prices(program, some, weights={('main', 1): 0, ('h', 0): 0}), {
            'all': (0, some[:1]), 'inside': (0, some[:1]), 'outside': (0, some[3:])})
        self.assertEqual(prices(program, some, start='any'), {
            'all': (2, some[3:]), 'inside': None, 'outside': (2, some[3:])})
        self.assertEqual(prices(program, some[:3]), {'all': (3, some[:1]), 'inside': (3, some[:1]), 'outside': None})
        self.assertEqual(prices(program, ()), {'all': None, 'inside': None, 'outside': None})

    def test_all_can_be_cheaper_than_both(self):
        program = Program.read('base a b kept k = a + b handlers h def main { pause b = 1 if { tell k } else { tell k } } def h { a = ? }')
        some = (('carry', 'h', 0, 'k'), ('carry', 'main', 1, 'k'), ('fresh', 'main', 3, 'k'), ('fresh', 'main', 4, 'k'))
        self.assertEqual(prices(program, some), {'all': (5, some[:2]), 'inside': None, 'outside': (6, some[2:])})

    def test_right_without_updates(self):
        program = Program.read('base a kept k = a handlers h def main { pause tell k } def h { }')
        self.assertEqual(prices(program, ()), {word: (0, ()) for word in ('all', 'inside', 'outside')})

    def test_drawn(self):
        draws = Draws(212)
        tried, nones = 0, 0
        while tried < 60:
            program = drawn_program(draws, procedures=5, base=2, kept=1 + tried % 2, most_extent=20)
            some = tuple(sorted(draws.shuffled(candidates(program))[:6]))
            if not program.handlers or not some:
                continue
            tried += 1
            spots = [(name, place) for name in program.procedures for place, _ in program.statements(name)]
            weights = draws.one_of([None, {spot: draws.below(4) for spot in spots if draws.below(2)}])
            start = draws.one_of(['right', 'right', 'any'])
            found = prices(program, some, weights=weights, start=start)
            inside, outside = parted(program, some)
            self.assertEqual(found, {word: price_by_hand(program, part, weights, start) for word, part in [
                ('all', some), ('inside', inside), ('outside', outside)]})
            nones += None in found.values()
            again = prices(weights=weights, candidates=some, start=start, program=program)
            self.assertEqual(again, found)
            self.assertIsNot(again, found)
        self.assertGreater(nones, 10)
        self.assertLess(nones, 55)


class Without(unittest.TestCase):
    def test_one_of_several(self):
        text = 'base a kept k = a%s def main { pause call i tell k } def h { a = 1 } def i { a = 2 } def j { }'
        program = Program.read(text % ' handlers i h j')
        self.assertEqual(without(program, 'i'), Program.read(text % ' handlers h j'))
        self.assertEqual(without(program, 'j'), Program.read(text % ' handlers i h'))
        self.assertEqual(without(without(without(program, 'h'), 'j'), 'i'), Program.read(text % ''))
        self.assertEqual(without(name='h', program=program), Program.read(text % ' handlers i j'))
        self.assertEqual(program, Program.read(text % ' handlers i h j'))

    def test_names_that_are_no_handlers(self):
        program = Program.read(ONE)
        for name in [*strange_values(), 'main', 'a', 'k', '', 'H', ('h',), ['h']]:
            with self.subTest(name=name), self.assertRaises(UnknownName) as caught:
                without(program, name)
            self.assertIs(caught.exception.name, name)
        with self.assertRaises(UnknownName):
            without(without(program, 'h'), 'h')


class Blamed(unittest.TestCase):
    def test_uses_that_several_handlers_make_stale(self):
        """Without one of them the other one still makes the use stale, so neither is blamed."""
        program = Program.read('base a kept k = a handlers h i def main { pause tell k } def h { a = ? } def i { a = ? }')
        self.assertEqual(blamed(program), [])
        self.assertEqual(blamed(program, (('carry', 'h', 0, 'k'),)), [('main', 1, 'k', 'i')])
        self.assertEqual(blamed(program, (('carry', 'h', 0, 'k'), ('carry', 'i', 0, 'k'))), [])

    def test_uses_that_only_two_handlers_together_make_stale(self):
        text = 'base a b kept k = a handlers h i def main { pause pause tell k } def h { b = b + k } def i { a = 1 }'
        program = Program.read(text)
        self.assertEqual(blamed(program), [('main', 2, 'k', 'i'), ('h', 0, 'k', 'h'), ('h', 0, 'k', 'i')])
        text = 'base a b kept k = a handlers i h def main { pause pause tell k } def i { b = 1 } def h { a = 1 + a }'
        self.assertEqual(blamed(Program.read(text)), [('main', 2, 'k', 'h')])
        text = 'base a b kept k = a handlers i h def main { b = 0 pause pause a = b tell k a = 0 } def i { b = 1 } def h { b = b + b }'
        self.assertEqual(blamed(Program.read(text)), [])

    def test_uses_that_no_run_reaches_without_the_handler(self):
        """They are right there in all runs, since there is none."""
        program = Program.read('base a kept k = a handlers h i def main { a = 1 pause } def h { tell k } def i { call p } def p { a = 2 tell k }')
        self.assertEqual(blamed(program), [('h', 0, 'k', 'h'), ('p', 1, 'k', 'i')])
        self.assertEqual(blamed(program, start='any'), [('h', 0, 'k', 'h'), ('p', 1, 'k', 'i')])

    def test_starts(self):
        program = Program.read('base a kept k = a handlers h def main { tell k pause tell k } def h { a = ? }')
        self.assertEqual((blamed(program), blamed(program, start='any')), ([('main', 2, 'k', 'h')], []))
        program = Program.read('base a kept k = a handlers h def main { fresh k pause tell k } def h { a = ? }')
        self.assertEqual((blamed(program), blamed(program, start='any')), ([('main', 2, 'k', 'h')], [('main', 2, 'k', 'h')]))

    def test_order_of_uses_and_then_of_handlers(self):
        text = 'base a kept k = a kept j = a handlers i h def main { pause tell j + k } def h { a = 1 call p } def i { call p } def p { tell k }'
        found = blamed(Program.read(text))
        self.assertEqual(found, [('main', 1, 'k', 'h'), ('main', 1, 'j', 'h'), ('p', 0, 'k', 'h')])
        text = 'base a kept k = a handlers i h def main { a = 1 pause } def i { call h } def h { tell k }'
        self.assertEqual(blamed(Program.read(text)), [])
        text = 'base a kept k = a handlers i h def main { pause pause } def h { a = 1 } def i { tell k }'
        self.assertEqual(blamed(Program.read(text)), [('i', 0, 'k', 'i'), ('i', 0, 'k', 'h')])

    def test_stale_without_any_handler(self):
        program = Program.read('base a kept k = a handlers h def main { a = 1 pause tell k } def h { a = ? }')
        self.assertEqual(blamed(program), [])
        self.assertEqual(blamed(Program.read('base a kept k = a def main { a = 1 pause tell k }')), [])

    def test_drawn(self):
        draws = Draws(213)
        seen = 0
        for at in range(120):
            program = drawn_program(draws, procedures=5, base=2, kept=2, most_extent=40)
            updates = drawn_updates(draws, program, 6, unreached=True)
            start = ('right', 'any')[at % 3 == 0]
            wanted = []
            for use in States(program, updates, start).stale_uses():
                for handler in program.handlers:
                    base, kept, handlers, procedures = program.tree()
                    handlers = tuple(name for name in handlers if name != handler)
                    if use not in States(Program((base, kept, handlers, procedures)), updates, start).stale_uses():
                        wanted.append(use + (handler,))
            self.assertEqual(blamed(program, updates, start=start), wanted)
            seen += len(wanted)
        self.assertGreater(seen, 30)


class Errors(unittest.TestCase):
    program = Program.read('base a kept k = a kept j = a handlers h def main { a = 1 pause a = 2 tell k tell j tell a } def h { a = ? }')
    many = tuple(candidates(program))[:13]
    bad = [*[value for value in strange_values() if type(value) is not tuple], [many[0]], 'x']

    def check(self, calls, error, field, value):
        for call in calls:
            with self.subTest(value=value), self.assertRaises(error) as caught:
                call()
            self.assertIs(type(caught.exception), error)
            self.assertIs(getattr(caught.exception, field), value)

    def test_updates(self):
        for some in self.bad:
            self.check([lambda: parted(self.program, some), lambda: prices(self.program, some), lambda: blamed(self.program, some),
                        lambda: prices(self.program, some, weights=[], start='left'),
                        lambda: blamed(self.program, some, start=None)], InvalidAction, 'value', some)
        for some, at in [(self.many[:2][::-1], 1), (self.many[:1] * 2, 1), (self.many + (None,), 13), (('x',), 0)]:
            self.check([lambda: parted(self.program, some), lambda: prices(self.program, some, start='left'),
                        lambda: blamed(self.program, some, start='left')], InvalidAction, 'value', some[at])

    def test_weights(self):
        for weights in [[], 0, 'x', {('main', 9): 1}, {('main', 0): -1}, {('main', 0): True}, Agreeing()]:
            for some in (self.many[:3], self.many):
                self.check([lambda: prices(self.program, some, weights=weights, start='left')], InvalidWeights, 'value', weights)
                self.check([lambda: prices(self.program, some, weights=weights)], InvalidWeights, 'value', weights)

    def test_starts(self):
        for start in [*strange_values(), 'left', '']:
            self.check([lambda: prices(self.program, self.many, start=start), lambda: prices(self.program, (), start=start),
                        lambda: blamed(self.program, self.many, start=start)], UnknownName, 'name', start)

    def test_thirteen(self):
        """Too many are refused, though neither those inside nor the others are too many."""
        self.assertEqual((len(self.many), [len(part) < 13 for part in parted(self.program, self.many)]), (13, [True, True]))
        self.check([lambda: prices(self.program, self.many), lambda: prices(self.program, self.many, weights={}, start='any')],
                   TooMany, 'word', 'candidates')
        prices(self.program, self.many[:12])
        self.assertEqual(blamed(self.program, self.many), [])

    def test_keywords_alone(self):
        for call in [lambda: prices(self.program, (), None), lambda: blamed(self.program, (), 'right'),
                     lambda: prices(self.program, (), faults=0)]:
            with self.assertRaises(TypeError):
                call()


if __name__ == '__main__':
    unittest.main()
