import unittest
from fractions import Fraction
from math import gcd

from draws import Draws
from freshplaces.errors import InvalidRow
from freshplaces.rows import kernel, product, reduced
from strange import strange_values

LARGE = 7 ** 400


def expected(rows, width):
    """The reduced rows by fractions: an independent way to the one form."""
    table = [[Fraction(number) for number in row] for row in rows]
    found = []
    for place in range(width):
        pivot = next((row for row in table if row[place] != 0), None)
        if pivot is None:
            continue
        table.remove(pivot)
        pivot = [number / pivot[place] for number in pivot]
        table = [[a - row[place] * b for a, b in zip(row, pivot)] for row in table]
        found = [[a - row[place] * b for a, b in zip(row, pivot)] for row in found] + [pivot]
    return [whole(row) for row in found]


def whole(row):
    scale = 1
    for number in row:
        scale = scale * number.denominator // gcd(scale, number.denominator)
    numbers = [int(number * scale) for number in row]
    common = gcd(*numbers)
    return tuple(number // common for number in numbers)


def some_rows(draws, width):
    many = draws.below(width + 3)
    size = draws.one_of([1, 2, 5, 30])
    return [tuple(draws.between(-size, size) * draws.below(2) for _ in range(width)) for _ in range(many)]


class Reduced(unittest.TestCase):
    def test_ordinary(self):
        self.assertEqual(reduced([(2, 4)], 2), [(1, 2)])
        self.assertEqual(reduced([(0, -3, 6)], 3), [(0, 1, -2)])
        self.assertEqual(reduced([(1, 2, 3), (4, 5, 6), (7, 8, 9)], 3), [(1, 0, -1), (0, 1, 2)])
        self.assertEqual(reduced([(0, 0, 5), (2, 1, 0)], 3), [(2, 1, 0), (0, 0, 1)])
        self.assertEqual(reduced([(2, 1, 1), (0, 3, 1)], 3), [(3, 0, 1), (0, 3, 1)])

    def test_no_rows_and_rows_of_zeros(self):
        for width in (1, 2, 9):
            self.assertEqual(reduced([], width), [])
            self.assertEqual(reduced([(0,) * width], width), [])
            self.assertEqual(reduced([(0,) * width] * 3, width), [])

    def test_width_of_one(self):
        self.assertEqual(reduced([(0,), (-6,), (4,)], 1), [(1,)])
        self.assertEqual(reduced([(-LARGE,)], 1), [(1,)])

    def test_all_of_a_width(self):
        self.assertEqual(reduced([(1, 1), (1, -1)], 2), [(1, 0), (0, 1)])
        self.assertEqual(reduced([(2, 0), (0, 2), (1, 1)], 2), [(1, 0), (0, 1)])

    def test_like_fractions(self):
        draws = Draws(4)
        for _ in range(400):
            width = draws.between(1, 7)
            rows = some_rows(draws, width)
            with self.subTest(rows=rows):
                self.assertEqual(reduced(rows, width), expected(rows, width))

    def test_equal_spans_give_equal_lists(self):
        draws = Draws(5)
        for _ in range(200):
            width = draws.between(1, 6)
            rows = some_rows(draws, width)
            sums = [tuple(a + b for a, b in zip(one, other)) for one, other in zip(rows, rows[1:])]
            others = draws.shuffled(rows + rows + sums + [(0,) * width])
            with self.subTest(rows=rows):
                self.assertEqual(reduced(draws.shuffled(rows), width), reduced(rows, width))
                self.assertEqual(reduced(others, width), reduced(rows, width))
                self.assertEqual(reduced(reduced(rows, width), width), reduced(rows, width))

    def test_multiples_of_whole_rows(self):
        draws = Draws(6)
        for _ in range(200):
            width = draws.between(1, 6)
            rows = some_rows(draws, width)
            changed = []
            for row in rows:
                factor = draws.one_of([-7, -1, 1, 2, LARGE, -LARGE])
                changed.append(tuple(factor * number for number in row))
            self.assertEqual(reduced(changed, width), reduced(rows, width))

    def test_very_large_numbers(self):
        rows = [(LARGE, 3 * LARGE, 0), (-LARGE + 1, LARGE, 5 ** 300), (11 ** 200, 1, -LARGE)]
        self.assertEqual(reduced(rows, 3), expected(rows, 3))
        self.assertEqual(reduced(rows[:2], 3), expected(rows[:2], 3))
        self.assertEqual(reduced([(LARGE, LARGE + 1)], 2), [(LARGE, LARGE + 1)])

    def test_the_argument_stays_and_the_list_is_new(self):
        rows = [(2, 4), (0, 0), (1, 2)]
        result = reduced(rows, 2)
        self.assertEqual(rows, [(2, 4), (0, 0), (1, 2)])
        result.append((0, 1))
        self.assertEqual(reduced(rows, 2), [(1, 2)])
        given = [(1, 0), (0, 1)]
        self.assertIsNot(reduced(given, 2), given)
        empty = []
        self.assertIsNot(reduced(empty, 2), empty)

    def test_arguments_by_name(self):
        self.assertEqual(reduced(width=2, rows=[(3, 6)]), [(1, 2)])

    def test_rows_are_tuples_of_integers_in_a_list(self):
        result = reduced([(2, 0), (0, 3)], 2)
        self.assertIs(type(result), list)
        for row in result:
            self.assertIs(type(row), tuple)
            self.assertEqual([type(number) for number in row], [int, int])


class Kernel(unittest.TestCase):
    def check(self, rows, width):
        found = kernel(rows, width)
        rank = len(reduced(rows, width))
        self.assertIs(type(found), list)
        self.assertEqual(len(found), width - rank)
        self.assertEqual(len(reduced(found, width)), width - rank)
        for one in found:
            self.assertIs(type(one), tuple)
            self.assertEqual(len(one), width)
            for row in rows:
                self.assertEqual(sum(a * b for a, b in zip(one, row)), 0)

    def test_ordinary(self):
        self.assertEqual(reduced(kernel([(1, 2)], 2), 2), [(2, -1)])
        self.assertEqual(reduced(kernel([(1, 1, 1)], 3), 3), [(1, 0, -1), (0, 1, -1)])
        self.check([(2, 3, 5), (0, 7, 11)], 3)

    def test_no_rows(self):
        for width in (1, 2, 5):
            self.check([], width)
            self.check([(0,) * width], width)

    def test_rows_that_span_everything(self):
        self.assertEqual(kernel([(5,)], 1), [])
        self.assertEqual(kernel([(1, 1), (1, 2)], 2), [])

    def test_many(self):
        draws = Draws(7)
        for _ in range(300):
            width = draws.between(1, 7)
            rows = some_rows(draws, width)
            with self.subTest(rows=rows):
                self.check(rows, width)

    def test_large_numbers(self):
        self.check([(LARGE, -LARGE - 1, 3), (5, LARGE, 2)], 3)
        self.check([(LARGE, -LARGE - 1, 3)], 3)

    def test_the_kernel_of_the_kernel(self):
        rows = [(1, 2, 3, 4), (0, 1, 0, -1)]
        self.assertEqual(reduced(kernel(kernel(rows, 4), 4), 4), reduced(rows, 4))

    def test_the_argument_stays(self):
        rows = [(2, 4)]
        kernel(rows, 2).append(1)
        self.assertEqual(rows, [(2, 4)])
        self.assertEqual(kernel(width=2, rows=rows), kernel(rows, 2))


class Product(unittest.TestCase):
    def test_product(self):
        self.assertEqual(product((1, 2, 3), (4, 5, 6)), 32)
        self.assertEqual(product((0, 0), (4, 5)), 0)
        self.assertEqual(product((-1, 2), (4, -5)), -14)
        self.assertEqual(product((LARGE, 1), (LARGE, -1)), LARGE * LARGE - 1)
        self.assertEqual(product((7,), (-1,)), -7)
        self.assertEqual(product(one=(1, 2), other=(3, 4)), 11)


class WrongRows(unittest.TestCase):
    def test_first_middle_and_last(self):
        wrong = [(1, True), (False, 2), [1, 2], (1,), (1, 2, 3), (1, '2'), (1, 2.0), (1, None), ((1,), 2), 'ab', b'ab']
        for function in (reduced, kernel):
            for value in wrong + strange_values():
                for place in range(5):
                    rows = [(1, 2), (3, 4), (0, 0), (5, 6)]
                    rows.insert(place, value)
                    with self.subTest(function=function, place=place), self.assertRaises(InvalidRow) as caught:
                        function(rows, 2)
                    self.assertIs(caught.exception.value, value)
                    self.assertIs(type(caught.exception), InvalidRow)

    def test_the_first_that_does_not_fit(self):
        for function in (reduced, kernel):
            with self.assertRaises(InvalidRow) as caught:
                function([(1, 1), (True, 1), [2, 2], (3,)], 2)
            self.assertIs(caught.exception.value[0], True)

    def test_the_argument_stays_when_an_error_is_raised(self):
        rows = [(2, 2), (1, 2, 3)]
        self.assertRaises(InvalidRow, reduced, rows, 2)
        self.assertEqual(rows, [(2, 2), (1, 2, 3)])


if __name__ == '__main__':
    unittest.main()
