import unittest

from freshplaces.actions import candidates
from freshplaces.cheapest import cheapest, cheapest_paper, harmful, is_cheapest, spare
from freshplaces.errors import InvalidAction, InvalidFaults, InvalidWeights, TooMany, UnknownName
from freshplaces.programs import Program
from strange import Agreeing, strange_values

PROGRAM = Program.read('base a kept k = a kept j = a def main { a = 1 tell k a = ? carry k tell j tell a tell a }')
EVERY = tuple(candidates(PROGRAM))
SOME = EVERY[:3]
MANY = EVERY[:13]
BAD_UPDATES = [*[value for value in strange_values() if type(value) is not tuple], list(SOME), SOME[::-1], SOME[:1] * 2,
               SOME + ('x',), (None,), (list(SOME[0]),), (SOME[0][:2] + (True,) + SOME[0][3:],), (('fresh', 'main', 6, 'k'),),
               (('carry', 'main', 2, 'k'),), MANY[::-1]]
BAD_WEIGHTS = [*[value for value in strange_values() if value is not None and (isinstance(value, Agreeing) or value != {})],
               {('main', 9): 1}, {('main', 0): -1}, {('main', 0): True}, {('main', False): 1}, {0: 0}, [(('main', 0), 1)]]
BAD_STARTS = [*strange_values(), 'left', '', ('right',)]
BAD_FAULTS = [*[value for value in strange_values() if type(value) is not int], 4, -1, '0', 10 ** 20]


def three_calls(some, **others):
    return [lambda: cheapest(PROGRAM, some, **others), lambda: cheapest_paper(PROGRAM, some, **others),
            lambda: is_cheapest(PROGRAM, some, None, **others)]


def two_calls(updates, action=SOME[0], **others):
    return [lambda: harmful(PROGRAM, updates, action, **others), lambda: spare(PROGRAM, updates, **others)]


class Errors(unittest.TestCase):
    def check(self, calls, error, field, value):
        for call in calls:
            with self.subTest(value=value), self.assertRaises(error) as caught:
                call()
            self.assertIs(type(caught.exception), error)
            if field:
                self.assertIs(getattr(caught.exception, field), value)

    def test_thirteen(self):
        self.assertEqual(len(MANY), 13)
        self.check(three_calls(MANY), TooMany, 'word', 'candidates')
        self.check(three_calls(EVERY, weights={}, start='any', faults=3), TooMany, 'word', 'candidates')
        for call in three_calls(MANY[:12]) + two_calls(MANY):
            call()

    def test_candidates(self):
        for some in BAD_UPDATES:
            field = 'value' if type(some) is not tuple else None
            for weights, start, faults in [(None, 'right', 0), ([], 'right', 0), (None, 'left', 0), (None, 'right', 4), ([], None, True)]:
                self.check(three_calls(some, weights=weights, start=start, faults=faults), InvalidAction, field, some)

    def test_the_first_wrong_element(self):
        for some, at in [(SOME[::-1], 1), (SOME[:1] * 2, 1), (SOME + ('x', None), 3), ((None, 'x'), 0)]:
            self.check(three_calls(some) + two_calls(some), InvalidAction, 'value', some[at])

    def test_weights(self):
        for weights in BAD_WEIGHTS:
            for some in (SOME, MANY):
                for start, faults in [('right', 0), ('left', 0), ('right', 4), (Agreeing(), True)]:
                    self.check(three_calls(some, weights=weights, start=start, faults=faults), InvalidWeights, 'value', weights)

    def test_starts(self):
        for start in BAD_STARTS:
            for some in (SOME, MANY):
                for faults in (0, 4, True):
                    self.check(three_calls(some, start=start, faults=faults), UnknownName, 'name', start)
                    self.check(two_calls(some, 'x', start=start, faults=faults), UnknownName, 'name', start)

    def test_faults(self):
        for faults in BAD_FAULTS:
            for some in (SOME, MANY):
                self.check(three_calls(some, faults=faults, start='any'), InvalidFaults, 'value', faults)
                self.check(two_calls(some, 'x', faults=faults), InvalidFaults, 'value', faults)

    def test_updates_of_harmful_and_spare(self):
        for updates in BAD_UPDATES:
            field = 'value' if type(updates) is not tuple else None
            for action, start, faults in [(SOME[0], 'right', 0), ('x', 'right', 0), ('x', 'left', 4), (SOME[0], 'left', 0)]:
                self.check(two_calls(updates, action, start=start, faults=faults), InvalidAction, field, updates)

    def test_actions_of_harmful(self):
        for action in [*strange_values(), 'x', list(SOME[0]), SOME[0][:3], ('carry', 'main', 2, 'k'), ('fresh', 'main', True, 'k')]:
            for updates in ((), SOME, MANY):
                self.check(two_calls(updates, action)[:1], InvalidAction, 'value', action)
            self.check(two_calls(SOME, action, start='left')[:1], UnknownName, 'name', 'left')
            self.check(two_calls(SOME, action, faults=7)[:1], InvalidFaults, 'value', 7)

    def test_keywords_alone(self):
        for call in [lambda: cheapest(PROGRAM, SOME, None), lambda: cheapest_paper(PROGRAM, SOME, None),
                     lambda: is_cheapest(PROGRAM, SOME, None, None), lambda: harmful(PROGRAM, SOME, SOME[0], 'right'),
                     lambda: spare(PROGRAM, SOME, 'right'), lambda: harmful(PROGRAM, SOME, SOME[0], weights=None),
                     lambda: spare(PROGRAM, SOME, weights=None)]:
            with self.assertRaises(TypeError):
                call()

    def test_arguments_by_name(self):
        value = cheapest_paper(program=PROGRAM, candidates=SOME, weights=None, start='right', faults=0)
        self.assertEqual(cheapest(program=PROGRAM, candidates=SOME, weights={}, start='right', faults=0), (value[0], list(value[1])))
        self.assertIs(is_cheapest(program=PROGRAM, candidates=SOME, value=value, weights=None, start='right', faults=0), True)
        self.assertEqual(spare(program=PROGRAM, updates=SOME, start='right', faults=0), spare(PROGRAM, SOME))


if __name__ == '__main__':
    unittest.main()
