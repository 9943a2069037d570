import unittest

from draws import Draws
from earley import first_wrong
from freshplaces.errors import InvalidAction, InvalidQuestion, InvalidText, TooLarge, UnknownName, UnknownProcedure
from freshplaces.programs import Program
from freshplaces.questions import ask, read_condition, rows_of, selected, where
from strange import strange_values

PROGRAM = Program.read('base a b kept k = a kept j = k + b def main { a = 1 tell k tell j } def p { }')
TOKENS = ('some no count every then or and not any procedure place kept verdict depends right stale main k a 0 12 ( ) base def = , '
          '*').split()


def text_with(tokens, draws):
    """A text with these tokens, and the list of their positions, the last one that of the end."""
    text = draws.one_of(['', ' ', '\n '])
    positions = []
    for token in tokens:
        near = text[-1:].isalnum() and token.isalnum()
        text += draws.one_of([' ', '\n', '  '] if near else ['', '', ' ', '\n'])
        positions.append(len(text))
        text += token
    text += draws.one_of(['', ' ', '\n\n'])
    return text, positions + [len(text)]


class Errors(unittest.TestCase):
    def check(self, call, error, field, value):
        with self.subTest(value=value), self.assertRaises(error) as caught:
            call()
        self.assertIs(type(caught.exception), error)
        if type(value) in (int, str):
            self.assertEqual(getattr(caught.exception, field), value)
        self.assertIs(type(getattr(caught.exception, field)), type(value))
        return caught.exception


class Texts(Errors):
    def test_values_that_are_no_texts(self):
        for value in strange_values():
            for call in [lambda: read_condition(value), lambda: ask(PROGRAM, value), lambda: ask(PROGRAM, value, 'x')]:
                self.assertIs(self.check(call, InvalidText, 'value', value).value, value)


class Positions(Errors):
    def test_conditions(self):
        for text, position in [
                ('', 0), (' \n', 2), ('all', 0), ('some any', 0), ('any any', 4), ('not', 3), ('not and', 4), ('not not', 7), ('and', 0),
                ('any and', 7), ('any or', 6), ('any or or any', 7), ('any and not', 11), ('any then any', 4), ('(', 1), ('()', 1), ('(any', 4),
                ('(any))', 5), ('any)', 3), (')', 0), ('( any and )', 10), ('procedure', 9), ('procedure 1', 10), ('procedure (main)', 10),
                ('procedure def', 10), ('procedure main p', 15), ('place', 5), ('place x', 6), ('place - 1', 6), ('place 1 2', 8),
                ('place 01', 6), ('place 1x', 6), ('kept kept', 5), ('kept 0', 5), ('kept k, j', 6), ('kept base', 5), ('verdict', 7),
                ('verdict wrong', 8), ('verdict any', 8), ('verdict 1', 8), ('verdict right stale', 14), ('depends', 7), ('depends if', 8),
                ('depends = a', 8), ('Any', 0), ('any $', 4), ('any _', 4), ('(any]', 4), ('not Any', 4), ('any and\nany or\n?', 15), ('a', 0),
                ('kept k = 1', 7), ('any and (any or', 15), ('0', 0), ('then', 0), ('base', 0), ('any.', 3), ('place 0x1', 6)]:
            found = self.check(lambda: read_condition(text), InvalidQuestion, 'position', position)
            self.assertEqual(found.position, position, text)

    def test_questions(self):
        for text, position in [
                ('', 0), ('any', 0), ('some', 4), ('some some', 5), ('all any', 0), ('Some any', 0), ('some any then any', 9), ('no', 2),
                ('no any no', 7), ('count', 5), ('count 1', 6), ('every any', 9), ('every any any', 10), ('every any then', 14),
                ('every then any', 6), ('every any then any then any', 19), ('every any and then any', 14), ('every any then or', 15),
                ('every (any then any)', 11), ('some any or', 11), ('(some any)', 0), ('not some any', 0), ('count any)', 9), ('some $', 5),
                ('every kept then', 15), ('every kept then then', 20), ('every kept then then then', 21), ('some place 1 then any', 13)]:
            for updates in ((), 'x'):
                found = self.check(lambda: ask(PROGRAM, text, updates), InvalidQuestion, 'position', position)
                self.assertEqual(found.position, position, text)

    def test_at_every_token(self):
        """One token is put in, left out or replaced, and a recogniser of the grammar tells where it cannot stand."""
        draws = Draws(271)
        texts = ['every not ( kept k or place 0 ) and verdict stale then depends a or any', 'count procedure main and not not any',
                 'some ( ( any ) or kept and ) and procedure then', 'no verdict right or verdict stale and place 12']
        wrong = 0
        for text in texts:
            tokens = text.split()
            for at in range(len(tokens) + 1):
                for other in TOKENS:
                    ways = [tokens[:at] + [other] + tokens[at:], tokens[:at] + [other] + tokens[at + 1:], tokens[:at] + tokens[at + 1:]]
                    for goal, changed in [(goal, way) for way in ways for goal in ('QUESTION', 'COND')]:
                        changed = changed if goal == 'QUESTION' else changed[1:]
                        written, positions = text_with(changed, draws)
                        first = first_wrong(changed, goal)
                        call = (lambda: ask(PROGRAM, written, 'x')) if goal == 'QUESTION' else (lambda: read_condition(written))
                        if first is not None:
                            self.check(call, InvalidQuestion, 'position', positions[first])
                            wrong += 1
                        elif goal == 'COND':
                            call()
                        else:
                            with self.assertRaises((InvalidAction, UnknownName, UnknownProcedure)):
                                call()
        self.assertGreater(wrong, 5000)

    def test_where_no_token_begins(self):
        for sign in ['$', '_', 'A', '.', '/', ';', '!', '"', '[', ']', '01', '00', '1a', '0a', '0000000000001', '1234567890123a']:
            for text in ['', 'any ', 'not ', '(', 'place ', 'kept ', 'any and ', 'verdict ', 'place 1 ']:
                self.check(lambda: read_condition(text + sign), InvalidQuestion, 'position', len(text))
                self.check(lambda: ask(PROGRAM, 'some ' + text + sign), InvalidQuestion, 'position', len(text) + 5)


class Sizes(Errors):
    def test_nesting(self):
        for mark, end in [('not ', ''), ('(', ')'), ('not(', ')')]:
            depth = len(mark.split('(')[0].split()) + mark.count('(')
            many = 30 // depth
            self.assertEqual(read_condition(mark * many + 'any' + end * many)(('main', 0, 'k', 'right', ())), 'not' not in mark or many % 2 == 0)
            for count in (many + 1, many + 2, 60):
                for inside in ('any', 'kept k', '$', ')', '', 'and', '1234567890123'):
                    self.check(lambda: read_condition(mark * count + inside), TooLarge, 'word', 'nesting')
                    self.check(lambda: ask(PROGRAM, 'count ' + mark * count + inside, 'x'), TooLarge, 'word', 'nesting')
            self.check(lambda: ask(PROGRAM, 'every any then ' + mark * (many + 1)), TooLarge, 'word', 'nesting')

    def test_ands_and_ors_are_not_nested(self):
        read_condition(' and '.join(['any'] * 40))
        read_condition(' or '.join(['(any)'] * 30))
        read_condition('(' * 30 + 'any and any or any' + ')' * 30 + ' and any')

    def test_numbers(self):
        self.assertEqual(read_condition('place 999999999999').parts(), ('place', 999999999999))
        for text in ['place 1000000000000', 'not place 1234567890123456', 'any and (place 1000000000000', 'place 1000000000000 $']:
            self.check(lambda: read_condition(text), TooLarge, 'word', 'numbers')
            self.check(lambda: ask(PROGRAM, 'some ' + text, 'x'), TooLarge, 'word', 'numbers')
        for text, position in [('kept 1000000000000', 5), ('1000000000000', 0), ('any 1000000000000', 4), ('place 1 1000000000000', 8),
                               ('verdict 1000000000000', 8)]:
            self.check(lambda: read_condition(text), InvalidQuestion, 'position', position)

    def test_the_first_from_left_to_right(self):
        deep = 'not ' * 31 + 'any'
        for text, error, field, value in [
                ('$ ' + deep, InvalidQuestion, 'position', 0), (deep + ' $', TooLarge, 'word', 'nesting'),
                ('place 1000000000000 and ' + deep, TooLarge, 'word', 'numbers'), (deep + ' and place 1000000000000', TooLarge, 'word', 'nesting'),
                ('any and $ place 1000000000000', InvalidQuestion, 'position', 8), ('any or place 1000000000000 $', TooLarge, 'word', 'numbers')]:
            self.check(lambda: read_condition(text), error, field, value)


class Names(Errors):
    def test_the_first_one_from_left_to_right(self):
        for text, error, name in [
                ('some procedure q', UnknownProcedure, 'q'), ('some procedure k', UnknownProcedure, 'k'), ('no kept a', UnknownName, 'a'),
                ('count kept main', UnknownName, 'main'), ('count depends k', UnknownName, 'k'), ('count depends c', UnknownName, 'c'),
                ('some not (kept k or not kept i)', UnknownName, 'i'), ('some kept x and procedure y', UnknownName, 'x'),
                ('some procedure y or kept x', UnknownProcedure, 'y'), ('every kept x then procedure y', UnknownName, 'x'),
                ('every kept k then procedure y', UnknownProcedure, 'y'), ('every any and depends a then kept k or depends z', UnknownName, 'z'),
                ('count (any or depends x and kept y) and procedure z', UnknownName, 'x'), ('no any and (kept k or (kept j or kept i)) or kept h', UnknownName, 'i'),
                ('count place 5 or depends j and depends x', UnknownName, 'j'), ('some not not procedure any', UnknownProcedure, 'any')]:
            for updates in ((), 'x', (None,)):
                self.check(lambda: ask(PROGRAM, text, updates), error, 'name', name)

    def test_reading_asks_for_no_names(self):
        self.assertEqual(read_condition('procedure q and kept x').parts()[0], 'and')

    def test_texts_come_before_names(self):
        self.check(lambda: ask(PROGRAM, 'some kept x $'), InvalidQuestion, 'position', 12)
        self.check(lambda: ask(PROGRAM, 'some kept x and place 1000000000000'), TooLarge, 'word', 'numbers')
        self.check(lambda: ask(PROGRAM, 'every kept x'), InvalidQuestion, 'position', 12)


class Updates(Errors):
    def test_wrong_updates(self):
        for updates in [value for value in strange_values() if type(value) is not tuple] + [[('fresh', 'main', 0, 'k')], 'x']:
            for call in [lambda: rows_of(PROGRAM, updates), lambda: list(selected(PROGRAM, where(), updates)),
                         lambda: ask(PROGRAM, 'some kept k', updates), lambda: ask(updates=updates, text='count any', program=PROGRAM)]:
                self.assertIs(self.check(call, InvalidAction, 'value', updates).value, updates)


class Fields(Errors):
    def test_other_words(self):
        for wanted, word in [({'name': 1}, 'name'), ({'kept': 'k', 'base': 'a'}, 'base'), ({'x': 1, 'y': 2}, 'x'), ({'any': 1}, 'any'),
                             ({'y': 1, 'place': 2, 'x': 2}, 'y'), ({'bases': ()}, 'bases'), ({'self': 1}, 'self'), ({'Kept': 'k'}, 'Kept'),
                             ({'wanted': 1}, 'wanted'), ({'parts': 1}, 'parts')]:
            self.check(lambda: where(**wanted), UnknownName, 'name', word)

    def test_by_name_alone(self):
        with self.assertRaises(TypeError):
            where('main')


if __name__ == '__main__':
    unittest.main()
