import unittest

from draws import Draws
from freshplaces.formulas import sources
from freshplaces.programs import Program
from freshplaces.questions import Condition, ask, read_condition, rows_of, selected, where
from freshplaces.states import States
from programs_drawn import drawn_program, drawn_updates
from strange import strange_values

TEXT = ('base a b kept k = a kept j = k + b handlers h def main { a = 1 tell k call p pause tell j } def h { b = ? tell k + j } '
        'def p { tell j } def far { tell k }')
# The five fields of a row, the last one as a condition asks for it.
FIELDS = ['procedure', 'place', 'kept', 'verdict', 'depends']


def built(tree):
    """The condition of a tree of conditions, made by where and operators."""
    if tree == ('any',):
        return where()
    if tree[0] == 'not':
        return ~built(tree[1])
    if tree[0] == 'and':
        return built(tree[1]) & built(tree[2])
    if tree[0] == 'or':
        return built(tree[1]) | built(tree[2])
    return where(**{tree[0]: tree[1]})


def parts_of(condition):
    """The tree of a condition."""
    return tuple(parts_of(part) if isinstance(part, Condition) else part for part in condition.parts())


def holds(tree, row):
    if tree == ('any',):
        return True
    if tree[0] == 'not':
        return not holds(tree[1], row)
    if tree[0] in ('and', 'or'):
        found = [holds(part, row) for part in tree[1:]]
        return all(found) if tree[0] == 'and' else any(found)
    worth = row[FIELDS.index(tree[0])]
    return tree[1] in worth if tree[0] == 'depends' else worth == tree[1]


def text_of(tree, draws, level=0):
    """A text of a tree: 0 where an or may stand, 1 where an and may, 2 where neither may; some brackets are spare."""
    if draws.below(6) == 0:
        return '( ' + text_of(tree, draws) + ' )'
    if tree[0] == 'or':
        text = text_of(tree[1], draws) + ' or ' + text_of(tree[2], draws, 1)
        return '(' + text + ')' if level > 0 else text
    if tree[0] == 'and':
        text = text_of(tree[1], draws, 1) + ' and ' + text_of(tree[2], draws, 2)
        return '(' + text + ')' if level > 1 else text
    if tree[0] == 'not':
        return 'not ' + text_of(tree[1], draws, 2)
    return ' '.join(str(part) for part in tree)


def drawn_tree(draws, program, depth=0):
    word = draws.one_of(FIELDS + ['any'] + ['not', 'and', 'or'] * (3 * (depth < 4)))
    if word == 'any':
        return (word,)
    if word == 'not':
        return (word, drawn_tree(draws, program, depth + 1))
    if word in ('and', 'or'):
        return (word, drawn_tree(draws, program, depth + 1), drawn_tree(draws, program, depth + 1))
    known = {'procedure': program.procedures, 'place': range(4), 'kept': program.kept, 'verdict': ['right', 'stale'], 'depends': program.base}
    return (word, draws.one_of(known[word]))


class Examples(unittest.TestCase):
    def test_of_the_document(self):
        program = Program.read('base x kept k = x def main { x = x + 1 tell k }')
        self.assertEqual([ask(program, text) for text in ['count verdict stale', 'every kept k then depends x', 'no place 1']], [1, True, False])


class Rows(unittest.TestCase):
    def test_written_out(self):
        program = Program.read(TEXT)
        both, one = ('a', 'b'), ('a',)
        self.assertEqual(rows_of(program), [
            ('main', 1, 'k', 'stale', one), ('main', 4, 'j', 'stale', both), ('h', 1, 'k', 'stale', one), ('h', 1, 'j', 'stale', both),
            ('p', 0, 'j', 'stale', both)])
        updates = (('carry', 'main', 0, 'j'), ('carry', 'main', 0, 'k'), ('fresh', 'h', 1, 'j'))
        self.assertEqual(rows_of(program, updates), [
            ('main', 1, 'k', 'right', one), ('main', 4, 'j', 'right', both), ('h', 1, 'k', 'right', one), ('h', 1, 'j', 'right', both),
            ('p', 0, 'j', 'right', both)])
        self.assertEqual([row[3] for row in rows_of(updates=updates[:2], program=program)], ['right', 'stale', 'right', 'stale', 'right'])

    def test_programs_without_rows(self):
        for text in ['base a def main { tell a }', 'base a kept k = a def main { fresh k } def far { tell k }']:
            self.assertEqual(rows_of(Program.read(text)), [])

    def test_bases_in_the_order_of_the_program(self):
        program = Program.read('base b a c kept k = a + b kept j = 3 kept i = c - k def main { tell i + j + k }')
        self.assertEqual([row[4] for row in rows_of(program)], [('b', 'a'), (), ('b', 'a', 'c')])

    def test_drawn(self):
        draws = Draws(261)
        for _ in range(100):
            program = drawn_program(draws, base=2, kept=2)
            updates = drawn_updates(draws, program, 6)
            states = States(program, updates)
            self.assertEqual(rows_of(program, updates), [
                use + ('stale' if use in states.stale_uses() else 'right', sources(program, use[2])) for use in states.uses()])

    def test_lists_are_new(self):
        program = Program.read(TEXT)
        rows_of(program).clear()
        self.assertEqual(len(rows_of(program)), 5)


class Conditions(unittest.TestCase):
    row = ('main', 3, 'k', 'right', ('a', 'b'))

    def test_fields(self):
        for word, value, other in [('procedure', 'main', 'p'), ('place', 3, 0), ('kept', 'k', 'j'), ('verdict', 'right', 'stale'), ('depends', 'b', 'c')]:
            self.assertIs(where(**{word: value})(self.row), True)
            self.assertIs(where(**{word: other})(self.row), False)
            self.assertEqual(where(**{word: value}).parts(), (word, value))
        self.assertIs(where(depends='a')(self.row), True)
        self.assertIs(where(depends='main')(self.row), False)
        self.assertIs(where(depends='a')(('main', 3, 'k', 'right', ())), False)
        self.assertEqual((where()(self.row), where().parts()), (True, ('any',)))

    def test_rows_are_just_compared(self):
        """Rows of no program, with any tuple of the form."""
        row = ('nowhere', -5, 'what', 'perhaps', ('x', 'x', 7))
        for wanted in [{'procedure': 'nowhere'}, {'place': -5}, {'kept': 'what'}, {'verdict': 'perhaps'}, {'depends': 'x'}]:
            self.assertIs(where(**wanted)(row), True)
            self.assertIs(where(**wanted)(self.row), False)
        self.assertIs(where(procedure='main')(row=self.row), True)

    def test_operators(self):
        yes, no = where(), where(place=0)
        for one in (yes, no):
            self.assertIs((~one)(self.row), one is no)
            for other in (yes, no):
                self.assertIs((one & other)(self.row), one is yes and other is yes)
                self.assertIs((one | other)(self.row), one is yes or other is yes)
                self.assertEqual((one & other).parts(), ('and', one, other))
                self.assertEqual((one | other).parts(), ('or', one, other))
                self.assertEqual((one.parts(), other.parts()), (('any',) if one is yes else ('place', 0), ('any',) if other is yes else ('place', 0)))
        self.assertEqual((~yes).parts(), ('not', yes))
        self.assertIsInstance((~yes).parts()[1], Condition)

    def test_equality_is_by_parts(self):
        conditions, again = ([
            where(), where(place=0), where(place=1), where(kept='k'), where(procedure='k'), ~where(), ~~where(),
            where() & where(place=0), where(place=0) & where(), where() | where(place=0), (where() & where()) & where(),
            where() & (where() & where()), ~(where() & where()), where(place=0) & where(place=1)] for _ in range(2))
        for at, one in enumerate(conditions):
            for other_at, other in enumerate(again):
                self.assertIs(one == other, at == other_at)
                self.assertIs(one != other, at != other_at)
            for value in [value for value in strange_values() if type(value).__name__ != 'Agreeing'] + [one.parts(), 'any', 'place 0']:
                self.assertFalse(one == value)
                self.assertFalse(value == one)

    def test_where_with_several_fields_in_their_order(self):
        one = where(kept='k', place=3, depends='b')
        self.assertEqual(one, (where(kept='k') & where(place=3)) & where(depends='b'))
        self.assertEqual(one, read_condition('kept k and place 3 and depends b'))
        self.assertNotEqual(one, where(place=3, kept='k', depends='b'))
        self.assertIs(one(self.row), True)
        self.assertIs(where(kept='k', place=3, depends='c')(self.row), False)
        self.assertIs(where(procedure='main', place=3, kept='k', verdict='right', depends='a')(self.row), True)
        self.assertEqual(where(verdict='stale', procedure='p').parts(), ('and', where(verdict='stale'), where(procedure='p')))

    def test_drawn(self):
        draws = Draws(262)
        program = Program.read(TEXT)
        for _ in range(200):
            tree = drawn_tree(draws, program)
            condition = built(tree)
            self.assertEqual(parts_of(condition), tree)
            for row in rows_of(program):
                self.assertIs(condition(row), holds(tree, row))

    def test_a_hundred(self):
        condition, row = where(place=1), ('main', 1, 'k', 'right', ())
        for _ in range(49):
            condition = ~condition
        self.assertIs(condition(row), False)
        self.assertTrue(condition == ~~condition.parts()[1].parts()[1])
        condition = where(place=1)
        for _ in range(49):
            condition = where() & condition
        self.assertEqual((condition(row), condition(('main', 2, 'k', 'right', ()))), (True, False))


class Texts(unittest.TestCase):
    def check(self, text, tree):
        self.assertEqual(parts_of(read_condition(text)), tree, text)

    def test_ones(self):
        self.check('any', ('any',))
        self.check('procedure main', ('procedure', 'main'))
        self.check('place 0', ('place', 0))
        self.check('place 999999999999', ('place', 999999999999))
        self.check('kept k', ('kept', 'k'))
        self.check('verdict right', ('verdict', 'right'))
        self.check('verdict stale', ('verdict', 'stale'))
        self.check('depends a', ('depends', 'a'))
        self.check('not any', ('not', ('any',)))
        self.check('( any )', ('any',))
        self.check('((not(not any)))', ('not', ('not', ('any',))))
        self.assertEqual(read_condition(text='any'), where())

    def test_joins(self):
        a, b, c, d = (('kept', name) for name in 'abcd')
        self.check('kept a and kept b and kept c', ('and', ('and', a, b), c))
        self.check('kept a or kept b or kept c', ('or', ('or', a, b), c))
        self.check('kept a and (kept b and kept c)', ('and', a, ('and', b, c)))
        self.check('kept a or (kept b or kept c)', ('or', a, ('or', b, c)))
        self.check('kept a or kept b and kept c or kept d', ('or', ('or', a, ('and', b, c)), d))
        self.check('kept a and kept b or kept c and kept d', ('or', ('and', a, b), ('and', c, d)))
        self.check('kept a and (kept b or kept c) and kept d', ('and', ('and', a, ('or', b, c)), d))
        self.check('not kept a and kept b', ('and', ('not', a), b))
        self.check('not (kept a and kept b)', ('not', ('and', a, b)))
        self.check('not not kept a or not kept b', ('or', ('not', ('not', a)), ('not', b)))

    def test_spaces_and_newlines(self):
        self.check('\n kept\na\n\nand(any)or\n\n(place 1) \n', ('or', ('and', ('kept', 'a'), ('any',)), ('place', 1)))
        self.check('not(any)', ('not', ('any',)))

    def test_names_that_are_words_of_questions(self):
        words = 'some no count every then or and not any procedure place verdict depends right stale'.split()
        for word in words:
            for field in ('procedure', 'kept', 'depends'):
                self.check(field + ' ' + word, (field, word))
        self.check('procedure and and kept or or depends not', ('or', ('and', ('procedure', 'and'), ('kept', 'or')), ('depends', 'not')))
        self.check('not procedure any', ('not', ('procedure', 'any')))

    def test_drawn(self):
        draws = Draws(263)
        program = Program.read(TEXT)
        for _ in range(300):
            tree = drawn_tree(draws, program)
            text = text_of(tree, draws)
            self.check(text, tree)
            self.check(draws.one_of(['', '\n']) + text.replace(' ', draws.one_of([' ', '\n', '  '])), tree)
            self.assertEqual(read_condition(text), built(tree))


class Selected(unittest.TestCase):
    def test_conditions_and_functions(self):
        program = Program.read(TEXT)
        rows = rows_of(program)
        self.assertEqual(list(selected(program, where())), rows)
        self.assertEqual(list(selected(program, where(kept='j', procedure='h'))), [rows[3]])
        self.assertEqual(list(selected(program, ~where(kept='j'))), [rows[0], rows[2]])
        self.assertEqual(list(selected(program, lambda row: row[1] > 0)), rows[:4])
        self.assertEqual(list(selected(program, lambda row: 0)), [])
        self.assertEqual(list(selected(program, lambda row: row[0] == 'p' and 'x')), rows[4:])

    def test_updates(self):
        program = Program.read(TEXT)
        updates = (('carry', 'main', 0, 'j'), ('carry', 'main', 0, 'k'))
        self.assertEqual([row[:3] for row in selected(program, where(verdict='stale'), updates)], [('main', 4, 'j'), ('h', 1, 'j')])
        self.assertEqual(list(selected(updates=updates, condition=where(place=0), program=program)), [('p', 0, 'j', 'right', ('a', 'b'))])

    def test_it_is_a_generator(self):
        found = selected(Program.read(TEXT), where())
        self.assertIs(iter(found), found)
        self.assertEqual(next(found)[:2], ('main', 1))


class Asked(unittest.TestCase):
    def test_each_word(self):
        program = Program.read(TEXT)
        updates = (('carry', 'main', 0, 'j'), ('carry', 'main', 0, 'k'))
        for text, wanted in [
                ('some verdict stale', True), ('no verdict stale', False), ('count verdict stale', 2), ('count any', 5), ('count not any', 0),
                ('some not any', False), ('no not any', True), ('every verdict stale then kept j', True), ('every kept j then verdict stale', False),
                ('every not any then not any', True), ('every any then any', True), ('every any then depends a', True),
                ('every depends b then kept j or place 7', True), ('count kept j and procedure h', 1), ('some place 4 and kept k', False),
                ('count not (kept j or place 1)', 0), ('count not kept j or place 1', 3), ('count procedure far', 0),
                ('\nevery\nkept k\nthen not(depends b)\n', True)]:
            found = ask(program, text, updates)
            self.assertEqual((type(found), found), (type(wanted), wanted), text)
        self.assertIs(ask(program, 'no verdict right'), True)
        self.assertEqual(ask(updates=updates, text='count verdict right', program=program), 3)

    def test_names_that_are_words_of_questions(self):
        program = Program.read('base any kept then = any kept and = any def not { tell then any = 1 tell and } def or { }')
        for text, wanted in [('every kept then then procedure not', True), ('some procedure or or kept and', True), ('count depends any and kept and', 1),
                             ('every procedure not and kept then then verdict right', True), ('count not procedure not', 0)]:
            self.assertEqual(ask(program, text), wanted)

    def test_drawn(self):
        draws = Draws(264)
        seen = {}
        for _ in range(150):
            program = drawn_program(draws, base=2, kept=2)
            updates = drawn_updates(draws, program, 6)
            rows = rows_of(program, updates)
            one, other = drawn_tree(draws, program), drawn_tree(draws, program)
            found = [row for row in rows if holds(one, row)]
            first, second = text_of(one, draws), text_of(other, draws)
            for text, wanted in [('some ' + first, bool(found)), ('no ' + first, not found), ('count ' + first, len(found)),
                                 ('every %s then %s' % (first, second), all(holds(other, row) for row in found))]:
                answer = ask(program, text, updates)
                self.assertEqual((type(answer), answer), (type(wanted), wanted), text)
                key = (text.split()[0], wanted)
                seen[key] = seen.get(key, 0) + 1
        self.assertGreater(min(seen[word, answer] for word in ('some', 'no', 'every') for answer in (True, False)), 20)


if __name__ == '__main__':
    unittest.main()
