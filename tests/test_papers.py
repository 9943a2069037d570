import unittest

from draws import Draws
from freshplaces.actions import candidates
from freshplaces.carries import all_carried
from freshplaces.errors import InvalidAction, InvalidFaults, UnknownName
from freshplaces.papers import is_paper, paper
from freshplaces.programs import Program
from freshplaces.states import States, is_right
from passbyhand import PassByHand
from programs_drawn import drawn_program, drawn_updates
from strange import Agreeing, strange_values

LOOP = Program.read('base x kept k = x def main { while { x = x + 1 carry k } tell k }')
NESTED = Program.read('base a b kept k = a - b def main { a = 0 b = 0 fresh k while { a = a + 1 b = b + 1 while { tell k '
                      'a = a - 1 carry k b = b - 1 carry k } } tell k }')
EVERY = ((1, 0, 0, 0), (0, 1, 0, 0), (0, 0, 1, 0), (0, 0, 0, 1))


def unit_rows(width):
    return tuple(tuple(int(at == place) for at in range(width)) for place in range(width))


class Example(unittest.TestCase):
    def test_of_the_document(self):
        self.assertEqual((is_paper(LOOP, (), (((1, 0, 0), (0, 1, 1)),)), is_paper(LOOP, (), (((1, 0, 0),),))), (True, False))


class ByHandWritten(unittest.TestCase):
    def test_a_loop(self):
        for rows, wanted in [(((1, 0, 0), (0, 1, 1)), True), (((0, 1, 1), (1, 0, 0)), True), (((1, 5, 5), (1, 4, 4)), True),
                             (((2, 0, 0), (0, -3, -3)), True), (((1, 0, 0), (0, 1, 1), (1, 1, 1), (0, 0, 0)), True),
                             (((1, 0, 0), (1, 0, 0), (0, 1, 1)), True), (((1, 0, 0), (0, 1, 0), (0, 0, 1)), False),
                             (((1, 0, 0), (0, 1, 2)), False), (((0, 1, 1),), False), (((1, 0, 0),), False), ((), False)]:
            self.assertIs(is_paper(LOOP, (), (rows,)), wanted, rows)
        self.assertIs(is_paper(program=LOOP, updates=(), value=(((1, 0, 0), (0, 1, 1)),), start='right', faults=0), True)

    def test_a_loop_in_a_loop(self):
        outer, inner = ((1, 0, 0, 0), (0, 1, 1, 0)), ((1, 0, 0, 0), (0, 1, 1, 0))
        self.assertTrue(is_paper(NESTED, (), (outer, inner)))
        for changed in [(outer,), (outer, inner, inner), (outer, ()), ((), inner), ((outer, inner),), (outer[:1], inner),
                        (outer, inner[:1]), (EVERY, inner), (outer, EVERY), (EVERY, EVERY), ()]:
            self.assertFalse(is_paper(NESTED, (), changed), changed)
        # A paper may claim less than is true, as long as the uses are right.
        wide = ((1, 0, 0, 0), (0, 1, 0, 1), (0, 0, 1, -1))
        self.assertTrue(is_paper(NESTED, (), (wide, wide)))
        # The inner loop ends with just its rows, which go back to the outer one.
        self.assertFalse(is_paper(NESTED, (), (outer, wide)))
        self.assertFalse(is_paper(NESTED, (), (wide, outer)))

    def test_a_procedure_with_a_loop_that_is_called_twice(self):
        program = Program.read('base a kept k = a def main { a = 1 fresh k call p a = 5 fresh k call p tell k } '
                               'def p { while { tell k } }')
        self.assertTrue(is_paper(program, (), (((1, 1, 1),), ((1, 5, 5),))))
        self.assertFalse(is_paper(program, (), (((1, 5, 5),), ((1, 1, 1),))))
        both = ((1, 1, 1), (1, 5, 5))
        self.assertTrue(is_paper(program, (), (both, both)))
        for changed in [(((1, 1, 1),),), (both,), (both, both, both), ((both, both),)]:
            self.assertFalse(is_paper(program, (), changed), changed)
        self.assertEqual(paper(program), (((1, 1, 1),), ((1, 5, 5),)))

    def test_a_pause_with_several_handlers(self):
        program = Program.read('base a kept k = a handlers h i def main { a = 0 fresh k pause while { } tell k } '
                               'def i { while { a = a + 1 carry k } } def h { while { tell k } a = 3 fresh k }')
        zero, line = ((1, 0, 0),), ((1, 0, 0), (0, 1, 1))
        self.assertTrue(is_paper(program, (), (zero, line, line)))
        self.assertTrue(is_paper(program, (), (line, line, line)))
        self.assertFalse(is_paper(program, (), (zero, zero, line)))
        self.assertFalse(is_paper(program, (), (zero, line, zero)))
        self.assertFalse(is_paper(program, (), (line, zero, line)))
        self.assertEqual(paper(program), (zero, line, line))

    def test_an_if(self):
        program = Program.read('base a kept k = a def main { a = 0 fresh k if { a = 1 fresh k while { } } else { a = 2 fresh k '
                               'while { } } while { } tell k }')
        first, second, both = ((1, 1, 1),), ((1, 2, 2),), ((1, 1, 1), (1, 2, 2))
        self.assertTrue(is_paper(program, (), (first, second, both)))
        for changed in [(second, first, both), (first, second, first), (first, second, second), (first, both), (both, first, second)]:
            self.assertFalse(is_paper(program, (), changed), changed)
        self.assertTrue(is_paper(program, (), (both, both, both)))

    def test_what_a_block_that_is_left_out_keeps(self):
        program = Program.read('base a kept k = a def main { a = 0 fresh k if { a = 1 fresh k } while { } }')
        self.assertFalse(is_paper(program, (), (((1, 1, 1),),)))
        self.assertTrue(is_paper(program, (), (((1, 1, 1), (1, 0, 0)),)))

    def test_inputs(self):
        program = Program.read('base a b kept k = a + b def main { a = 0 b = 0 fresh k while { a = ? carry k } tell k }')
        line = ((1, 0, 0, 0), (0, 1, 0, 1))
        self.assertTrue(is_paper(program, (), (line,)))
        self.assertFalse(is_paper(program, (), (line[:1],)))
        self.assertFalse(is_paper(program, (), (((1, 0, 0, 0), (0, 1, 0, 2)),)))

    def test_no_loops(self):
        program = Program.read('base a kept k = a def main { a = 1 tell k }')
        self.assertEqual(paper(program, (('carry', 'main', 0, 'k'),)), ())
        self.assertTrue(is_paper(program, (('carry', 'main', 0, 'k'),), ()))
        self.assertFalse(is_paper(program, (), ()))
        self.assertFalse(is_paper(program, (('carry', 'main', 0, 'k'),), ((),)))
        self.assertIs(paper(program), None)

    def test_loops_that_are_not_reached_are_not_passed(self):
        program = Program.read('base a kept k = a def main { tell k } def far { while { a = 1 tell k } }')
        self.assertEqual(paper(program), ())
        self.assertTrue(is_paper(program, (), ()))

    def test_what_computes_anew_at_a_while_comes_before_its_rows(self):
        program = Program.read('base a kept k = a def main { a = 1 while { tell k } }')
        updates = (('fresh', 'main', 1, 'k'),)
        self.assertTrue(is_paper(program, updates, (((1, 1, 1),),)))
        self.assertEqual(paper(program, updates), (((1, 1, 1),),))
        self.assertFalse(is_paper(program, updates, (((1, 1, 0), (0, 0, 1)),)))

    def test_the_start(self):
        program = Program.read('base a kept k = a def main { while { } fresh k tell k }')
        self.assertTrue(is_paper(program, (), (((1, 0, 0), (0, 1, 1)),)))
        self.assertFalse(is_paper(program, (), (((1, 0, 0), (0, 1, 1)),), 'any'))
        self.assertTrue(is_paper(program, (), (unit_rows(3),), 'any'))
        self.assertTrue(is_paper(program, (), (unit_rows(3),)))
        self.assertIs(paper(LOOP, start='any'), None)

    def test_faults(self):
        program = Program.read('base a kept k = a def main { a = 0 while { a = a + 1 } tell k }')
        updates = (('fresh', 'main', 1, 'k'), ('fresh', 'main', 3, 'k'))
        self.assertEqual(paper(program, updates, 'right', 1), None)
        more = tuple(sorted(updates + (('carry', 'main', 2, 'k'),)))
        every = unit_rows(3)
        self.assertFalse(is_paper(program, more, (every,) * 2, 'right', 1))
        # With two updates between the while and the use, one of which may be missed.
        line, wide = ((1, 0, 0), (0, 1, 1)), unit_rows(3)
        double = Program.read('base a kept k = a def main { a = 0 while { a = a + 1 } tell a tell k }')
        updates = (('carry', 'main', 2, 'k'), ('fresh', 'main', 1, 'k'), ('fresh', 'main', 4, 'k'))
        self.assertEqual(paper(double, updates, 'right', 0), (line,))
        self.assertEqual(paper(double, updates, 'right', 1), (line, wide))
        for value, wanted in [((line, wide), True), ((wide, line), False), ((line, line), False), ((line,), False),
                              ((line, wide, wide), False), ((wide, wide), False), (((line, wide),), False)]:
            self.assertIs(is_paper(double, updates, value, 'right', 1), wanted)
        # With two missed ones the last update may be one of them.
        self.assertIs(paper(double, updates, 'right', 2), None)
        self.assertFalse(is_paper(double, updates, (line, wide, wide), 'right', 2))


class Values(unittest.TestCase):
    right = (((1, 0, 0), (0, 1, 1)),)

    def test_other_widths_and_kinds(self):
        for value in [*[value for value in strange_values()], ((1, 0, 0), (0, 1, 1)), [self.right[0]], (list(self.right[0]),),
                      (([1, 0, 0], (0, 1, 1)),), (((1, 0, 0), [0, 1, 1]),), (((True, 0, 0), (0, 1, 1)),),
                      (((1, False, 0), (0, 1, 1)),), (((1, 0, 0), (0, 1, True)),), (((1, 0), (0, 1)),), (((1, 0, 0, 0), (0, 1, 1, 0)),),
                      (((1, 0, 0), (0, 1, 1), ()),), (((1, 0, 0), (0, 1, 1), 5),), (((1.0, 0, 0), (0, 1, 1)),), (((1, 0, 0), (0, '1', 1)),),
                      (((1, 0, 0), (0, 1, None)),), ((1, 0, 0, 0, 1, 1),), (Agreeing(),), ((Agreeing(), Agreeing()),),
                      (((1, 0, 0), (0, Agreeing(), 1)),), ('',), ({},), (((1, 0, 0), (0, 1, 1)), ()), self.right + self.right,
                      ({(1, 0, 0): 1, (0, 1, 1): 1},), self.right[0][0], 'x', (None,), ((None,),)]:
            self.assertIs(is_paper(LOOP, (), value), False, value)
        self.assertIs(is_paper(LOOP, (), self.right), True)

    def test_the_value_is_not_changed(self):
        before = repr(self.right)
        is_paper(LOOP, (), self.right)
        self.assertEqual(repr(self.right), before)

    def test_errors(self):
        for updates in [[], None, ('x',), (('fresh', 'main', 2, 'k'), ('fresh', 'main', 0, 'k')), Agreeing()]:
            for start, faults in [('right', 0), ('left', 0), ('right', 9), (None, None)]:
                with self.assertRaises(InvalidAction):
                    paper(LOOP, updates, start, faults)
                with self.assertRaises(InvalidAction):
                    is_paper(LOOP, updates, self.right, start, faults)
        for start in [*strange_values(), 'left', '']:
            for faults in (0, 4, True):
                with self.assertRaises(UnknownName) as caught:
                    paper(LOOP, (), start, faults)
                self.assertIs(caught.exception.name, start)
                with self.assertRaises(UnknownName):
                    is_paper(LOOP, (), None, start, faults)
        for faults in [*[value for value in strange_values() if type(value) is not int], 4, -1]:
            with self.assertRaises(InvalidFaults) as caught:
                paper(program=LOOP, updates=(), start='any', faults=faults)
            self.assertIs(caught.exception.value, faults)
            with self.assertRaises(InvalidFaults):
                is_paper(LOOP, (), self.right, 'any', faults)


class Drawn(unittest.TestCase):
    def setUp(self):
        self.draws = Draws(111)

    def program_with_updates(self):
        """A program with loops, and updates with which the uses are often right."""
        draws = self.draws
        while True:
            program = drawn_program(draws, base=draws.between(1, 2), kept=draws.between(1, 2), most_extent=30)
            if not any(statement[0] == 'while' for name in [program.start, *program.reached(program.start)]
                       for _, statement in program.statements(name)):
                continue
            updates = set(drawn_updates(draws, program, 8, unreached=True))
            if draws.below(3):
                updates |= {action for kept in program.kept for action in all_carried(program, kept)}
            return program, tuple(sorted(updates))

    def test_a_paper_exactly_if_all_uses_are_right(self):
        found = [0, 0]
        for at in range(240):
            program, updates = self.program_with_updates()
            start, faults = ('right', 'right', 'any')[at % 3], self.draws.below(4)
            value = paper(program, updates, start, faults)
            right = is_right(program, updates, start, faults)
            found[right] += 1
            self.assertEqual(value is not None, right)
            if right:
                self.assertIs(type(value), tuple)
                self.assertTrue(is_paper(program, updates, value, start, faults))
                self.assertEqual(paper(program, updates, start, faults), value)
        self.assertGreater(min(found), 30)

    def test_as_the_pass_by_hand(self):
        found = [0, 0]
        for at in range(150):
            program, updates = self.program_with_updates()
            start, faults = ('right', 'right', 'any')[at % 3], self.draws.below(3)
            first = paper(program, updates, start, faults)
            if first is None:
                # What the loops would have if nothing were told, with which some use must fail.
                first = paper(Program(self.without_uses(program.tree())), updates, start, faults)
            if first is None:
                continue
            for value in [first, *[self.changed(first, program) for _ in range(4)]]:
                wanted = PassByHand(program, updates, value, start, faults).accepts()
                self.assertIs(is_paper(program, updates, value, start, faults), wanted, (program.tree(), updates, value))
                found[wanted] += 1
                if wanted:
                    self.assertEqual(States(program, updates, start, faults).stale_uses(), [])
        self.assertGreater(min(found), 100)

    def without_uses(self, value):
        """The tree without what is told."""
        if not isinstance(value, tuple):
            return value
        if len(value) == 2 and value[0] == 'tell':
            return ('tell', (0, ()))
        return tuple(self.without_uses(part) for part in value)

    def changed(self, value, program):
        """The paper with another part."""
        draws, parts = self.draws, [list(rows) for rows in value]
        width = 1 + len(program.base + program.kept)
        kind = draws.below(8)
        at = draws.below(len(parts)) if parts else 0
        if not parts or kind == 0:
            return value + ((),) * draws.below(2)
        if kind == 1:
            parts.pop(at)
        elif kind == 2:
            parts[at] = list(unit_rows(width))
        elif kind == 3 and parts[at]:
            parts[at].pop(draws.below(len(parts[at])))
        elif kind == 4:
            other = draws.below(len(parts))
            parts[at], parts[other] = parts[other], parts[at]
        elif kind == 5:
            parts[at].append(tuple(draws.between(-1, 1) for _ in range(width)))
        elif kind == 6:
            parts[at] = draws.shuffled(parts[at]) + parts[at][:1]
        elif len(parts[at]) > 1:
            one, other = parts[at][:2]
            parts[at][0] = tuple(2 * number - 3 * less for number, less in zip(one, other))
        return tuple(tuple(rows) for rows in parts)

    def test_all_rows_at_each_loop(self):
        found = [0, 0]
        for at in range(120):
            program, updates = self.program_with_updates()
            first = paper(program, updates)
            if first is None:
                continue
            every = tuple(unit_rows(1 + len(program.base + program.kept)) for _ in first)
            wanted = PassByHand(program, updates, every, 'right', 0).accepts()
            self.assertIs(is_paper(program, updates, every), wanted)
            found[wanted] += 1
        self.assertGreater(min(found), 5)

    def test_no_paper_for_what_is_stale(self):
        for at in range(100):
            program, updates = self.program_with_updates()
            faults = self.draws.below(4)
            if is_right(program, updates, 'right', faults):
                continue
            width = 1 + len(program.base + program.kept)
            silent = Program(self.without_uses(program.tree()))
            first = paper(silent, updates, 'right', faults)
            if first is None:
                continue
            for value in [first, tuple(unit_rows(width) for _ in first), tuple(() for _ in first),
                          *[self.changed(first, program) for _ in range(10)]]:
                self.assertFalse(is_paper(program, updates, value, 'right', faults))

    def test_large(self):
        text = ('base a b c d kept k = a + b kept j = c - d handlers h def main { while { while { call p a = a + 1 carry k } '
                'while { pause b = ? } } tell k + j } def p { while { c = c + d carry j while { d = 2*d carry j call q } } } '
                'def q { while { a = b b = a tell j } } def h { while { while { c = ? carry j } } }')
        program = Program.read(text)
        updates = (*all_carried(program, 'k'),)
        value = paper(program, updates, 'right', 0)
        self.assertEqual(len(value), 8)
        self.assertTrue(is_paper(program, updates, value))
        self.assertEqual(len([action for action in candidates(program) if action in updates]), len(updates))
        self.assertFalse(is_paper(program, updates[1:], value))


if __name__ == '__main__':
    unittest.main()
