import unittest

from draws import Draws
from earley import first_wrong
from freshplaces.errors import InvalidSyntax, TooLarge
from freshplaces.printing import show
from freshplaces.texts import parse, parse_procedure
from trees_drawn import tree as drawn_tree

TOKENS = ('base kept handlers def if else while tell fresh carry call pause = + - * ? { } , a k main 0 7 12').split()


def text_of(tokens, draws):
    """A text with these tokens, and the list of their positions."""
    text = draws.one_of(['', ' ', '\n '])
    positions = []
    for token in tokens:
        if text[-1:].isalnum() and token.isalnum():
            text += draws.one_of([' ', '\n', '  \n'])
        else:
            text += draws.one_of(['', '', ' ', '\n'])
        positions.append(len(text))
        text += token
    text += draws.one_of(['', ' ', '\n\n'])
    return text, positions + [len(text)]


def tokens_in(text):
    for sign in '=+-*?{},':
        text = text.replace(sign, ' ' + sign + ' ')
    return text.split()


class Positions(unittest.TestCase):
    def check(self, text, position, function=parse):
        with self.subTest(text=text), self.assertRaises(InvalidSyntax) as caught:
            function(text)
        self.assertEqual(caught.exception.position, position)
        self.assertIs(type(caught.exception), InvalidSyntax)

    def check_size(self, text, word, function=parse):
        with self.subTest(text=text), self.assertRaises(TooLarge) as caught:
            function(text)
        self.assertEqual(caught.exception.word, word)

    def test_tokens_that_cannot_stand_there(self):
        head = 'base a def m {'
        for text, position in [
                ('kept', 0), ('a', 0), ('  def', 2), ('base base', 5), ('base a =', 7), ('base a 1', 7),
                ('base a kept k k', 14), ('base a kept 1', 12), ('base a kept k = ?', 16), ('base a kept k = * a', 16),
                ('base a kept k = a a', 18), ('base a kept k = 1 1', 18), ('base a kept k = 2 * 3', 20),
                ('base a kept k = a * 3', 18), ('base a kept k = - - a', 18), ('base a kept k = a + - a', 20),
                ('base a kept k = + a', 16), ('base a handlers def', 16), ('base a handlers h handlers', 18),
                ('base a handlers h kept', 18), ('base a def m def', 13), ('base a def { }', 11), ('base a def if', 11),
                ('base a def m { } base', 17), ('base a def m { } kept', 17), ('base a def m { } }', 17),
                ('base a def m { } a', 17), ('base a def m (', 13)]:
            self.check(text, position)
        for text, behind in [
                ('{', 0), ('1', 0), ('else', 0), ('= 1', 0), ('carry k', 0), ('kept', 0), ('?', 0), ('-', 0), (',', 0),
                ('a + 1', 2), ('a 1', 2), ('a = }', 4), ('a = carry k', 4), ('a = ? + 1', 6), ('a = 1 carry }', 12),
                ('a = 1 carry k, }', 15), ('a = 1 carry k ,, j', 15), ('a = ? carry 1', 12), ('a = 1 carry k carry j', 14),
                ('tell }', 5), ('tell ?', 5), ('tell 1 carry k', 7), ('tell a, b', 6), ('fresh 1', 6), ('fresh a, b', 7),
                ('fresh }', 6), ('call call', 5), ('call p, q', 6), ('pause a }', 8), ('pause 1', 6), ('if a', 3),
                ('if { } else a', 12), ('if { } else { } else { }', 16), ('while { } else { }', 10), ('while }', 6),
                ('while def', 6), ('def q { }', 0), ('else { }', 0), ('tell 1 * 2', 9), ('tell a b c', 9)]:
            self.check(head + text, len(head) + behind)

    def test_where_no_token_begins(self):
        head = 'base a def m {'
        for sign in ['$', '(', '_', 'A', '%', '.', '/', ';', ':', '!', '"', '~', '[', '01', '00', '007', '1a', '0a',
                     '12ab', '0000000000001', '1234567890123a', '2x*a']:
            self.check(sign, 0)
            self.check('base ' + sign, 5)
            self.check('base a ' + sign, 7)
            self.check(head + sign, len(head))
            self.check(head + 'tell ' + sign, len(head) + 5)
            self.check(head + 'tell 1 ' + sign, len(head) + 7)
            self.check(head + '}' + sign, len(head) + 1)
        self.check(head + 'tell a_b', len(head) + 6)
        self.check(head + 'tell aB', len(head) + 6)
        self.check(head + 'tell 12A', len(head) + 7)

    def test_where_the_text_ends_too_early(self):
        whole = 'base a kept k = 2 * a + 1 handlers h def m { a = ? carry k if { tell - a } else { call h } while { } }'
        tokens = whole.split()
        for many in range(len(tokens)):
            text = ' '.join(tokens[:many])
            for behind in ('', ' ', '\n\n '):
                self.check(text + behind, len(text + behind))
        self.check('', 0)
        self.check('\n', 1)

    def test_the_first_error_counts(self):
        self.check('base 1 $', 5)
        self.check('base $ 1', 5)
        self.check('base a def m { tell tell $ 1000000000000 }', 20)

    def test_positions_count_characters(self):
        self.check('\n\n  base\n\n  a\n =', 15)
        self.check('base a def m{a=?carry k,j tell 2*3}', 33)

    def test_numbers_that_are_too_large(self):
        head = 'base a def m { '
        for text in ['tell 1000000000000', 'tell -1000000000000', 'tell a + 9999999999999 $', 'a = 1000000000000*a',
                     'a = 1 + 1000000000000', 'tell 1' + '0' * 900]:
            self.check_size(head + text, 'numbers')
            self.check_size(head + text + ' }', 'numbers')
            self.check_size('def m { ' + text, 'numbers', parse_procedure)
        self.check_size('base a kept k = 1000000000000', 'numbers')

    def test_large_numbers_where_no_number_may_stand(self):
        self.check('1000000000000', 0)
        self.check('base 1000000000000', 5)
        self.check('base a def m { 1000000000000', 15)
        self.check('base a def m { tell 2*1000000000000', 22)
        self.check('base a def m { tell 2 1000000000000', 22)
        self.check('base a def m { pause 1000000000000', 21)
        self.check('base a def m { a = ? carry 1000000000000', 27)

    def test_size_and_syntax(self):
        deep = '{' + 'while {' * 30
        self.check_size('base a def m ' + deep, 'nesting')
        self.check_size('base a def m ' + deep + ' $', 'nesting')
        self.check_size('base a def m ' + deep + ' tell 1000000000000', 'nesting')
        self.check_size('base a def m { tell 1000000000000 ' + deep[1:], 'numbers')
        self.check('base a def m { tell 2*3 ' + deep[1:], 22)
        self.check('base a def m { tell tell 1000000000000', 20)
        shallow = '{' + 'while {' * 29
        self.check('base a def m ' + shallow + ' while $', len('base a def m ' + shallow + ' while '))
        self.check('base a def m ' + shallow + ' if', len('base a def m ' + shallow + ' if'))
        self.check_size('base a def m ' + shallow + ' if { }', 'nesting')
        self.check_size('base a def m ' + shallow + ' tell 1000000000000', 'numbers')

    def test_tokens_drawn(self):
        """What follows is told by the grammar itself, as written in the document."""
        draws = Draws(21)
        for _ in range(1500):
            tokens = tokens_in(show(drawn_tree(draws)))
            if len(tokens) > 80:
                continue
            for _ in range(draws.between(0, 2)):
                at = draws.below(len(tokens) + 1)
                tokens[at:at + draws.below(2)] = [draws.one_of(TOKENS) for _ in range(draws.below(2))]
            text, positions = text_of(tokens, draws)
            wrong = first_wrong(tokens)
            if wrong is None:
                parse(text)
            else:
                self.check(text, positions[wrong])

    def test_each_token_behind_each_beginning(self):
        whole = 'base a b kept k = - 2 * a + 1 handlers h def m { a = ? carry k , k if { tell a } else { fresh k } pause }'
        tokens = whole.split()
        draws = Draws(22)
        for many in range(len(tokens) + 1):
            for token in TOKENS:
                changed = tokens[:many] + [token]
                text, positions = text_of(changed, draws)
                wrong = first_wrong(changed)
                if wrong is None:
                    parse(text)
                else:
                    self.check(text, positions[wrong])

    def test_procedures_drawn(self):
        draws = Draws(23)
        for _ in range(300):
            tree = drawn_tree(draws)
            tokens = tokens_in(show((('a',), (), (), tree[3])))[2:]
            if len(tokens) > 80:
                continue
            if draws.below(2):
                at = draws.below(len(tokens) + 1)
                tokens[at:at + 1] = [draws.one_of(TOKENS)]
            text, positions = text_of(tokens, draws)
            wrong = first_wrong(tokens, 'PROCEDURE')
            if wrong is None:
                parse_procedure(text)
            else:
                self.check(text, positions[wrong], parse_procedure)


if __name__ == '__main__':
    unittest.main()
