import unittest
from fractions import Fraction

from draws import Draws
from freshplaces.errors import InvalidRow
from freshplaces.rows import reduced
from freshplaces.spaces import Space
from strange import Agreeing, strange_values

LARGE = 13 ** 300


def some_space(draws, width):
    many = draws.below(width + 2)
    return [tuple(draws.between(-2, 2) for _ in range(width)) for _ in range(many)]


class Spaces(unittest.TestCase):
    def test_width_and_rows(self):
        space = Space(3, [(0, 0, -2), (2, 4, 0), (0, 0, 0), (1, 2, 7)])
        self.assertEqual(space.width, 3)
        self.assertEqual(space.rows, [(1, 2, 0), (0, 0, 1)])
        self.assertIs(type(space.rows), list)
        self.assertEqual(Space(width=1, rows=[(-9,)]).rows, [(1,)])

    def test_rows_are_those_of_reduced(self):
        draws = Draws(1)
        for _ in range(100):
            width = draws.between(1, 5)
            rows = some_space(draws, width)
            self.assertEqual(Space(width, rows).rows, reduced(rows, width))

    def test_len_and_truth(self):
        self.assertEqual(len(Space(2, [])), 0)
        self.assertEqual(len(Space(2, [(0, 0)])), 0)
        self.assertEqual(len(Space(2, [(1, 2), (2, 4)])), 1)
        self.assertEqual(len(Space(2, [(1, 2), (2, 5)])), 2)
        self.assertFalse(Space(2, []))
        self.assertFalse(Space(2, [(0, 0)]))
        self.assertTrue(Space(2, [(0, 1)]))

    def test_in(self):
        space = Space(3, [(2, 4, 0), (0, 0, 3)])
        for row in [(0, 0, 0), (2, 4, 0), (1, 2, 0), (-1, -2, 5), (0, 0, 1), (LARGE, 2 * LARGE, 1)]:
            self.assertIs(row in space, True)
        for row in [(1, 0, 0), (0, 1, 0), (1, 2 + LARGE, 0), (2, 3, 0)]:
            self.assertIs(row in space, False)

    def test_in_an_empty_span(self):
        space = Space(2, [])
        self.assertTrue((0, 0) in space)
        self.assertFalse((0, 1) in space)
        self.assertFalse((0,) in space)

    def test_rational_multiples_that_consist_of_integers(self):
        space = Space(2, [(6, 9)])
        self.assertTrue((2, 3) in space)
        self.assertTrue((-4, -6) in space)
        self.assertFalse((1, 1) in space)
        both = Space(3, [(2, 1, 1), (0, 3, 1)])
        self.assertEqual(both.rows, [(3, 0, 1), (0, 3, 1)])
        self.assertTrue((1, 2, 1) in both)
        self.assertTrue((1, -1, 0) in both)

    def test_in_like_fractions(self):
        draws = Draws(2)
        for _ in range(300):
            width = draws.between(1, 4)
            rows = some_space(draws, width)
            row = tuple(draws.between(-2, 2) for _ in range(width))
            wanted = len(reduced(rows + [row], width)) == len(reduced(rows, width))
            self.assertIs(row in Space(width, rows), wanted)

    def test_sums_of_fractions_are_in(self):
        draws = Draws(3)
        for _ in range(300):
            rows = some_space(draws, 4)
            factors = [Fraction(draws.between(-4, 4), draws.between(1, 3)) for _ in rows]
            total = [sum([f * row[at] for f, row in zip(factors, rows)], Fraction(0)) for at in range(4)]
            if all(number.denominator == 1 for number in total):
                self.assertTrue(tuple(int(number) for number in total) in Space(4, rows))

    def test_what_is_no_row_is_not_in(self):
        whole = Space(2, [(1, 0), (0, 1)])
        wrong = [(True, 0), (0, False), [1, 0], (1,), (1, 0, 0), (1.0, 0), ('a', 'b'), 'ab', (None, 0), ((1, 0), 0)]
        for value in wrong + strange_values():
            with self.subTest(value=value):
                self.assertIs(value in whole, False)

    def test_equal(self):
        one = Space(2, [(1, 2)])
        self.assertTrue(one == Space(2, [(-3, -6), (1, 2)]))
        self.assertFalse(one != Space(2, [(-3, -6), (1, 2)]))
        self.assertFalse(one == Space(2, [(1, 3)]))
        self.assertTrue(one != Space(2, [(1, 3)]))
        self.assertFalse(one == Space(2, [(1, 2), (0, 1)]))
        self.assertFalse(Space(1, []) == Space(2, []))
        self.assertTrue(Space(2, []) == Space(2, [(0, 0)]))

    def test_not_equal_to_other_kinds(self):
        one = Space(1, [(1,)])
        for value in [[(1,)], (1, [(1,)]), 1, (1,), one.rows] + strange_values():
            if not isinstance(value, Agreeing):
                self.assertFalse(one == value)
                self.assertTrue(one != value)
                self.assertFalse(value == one)
        self.assertFalse(Space(1, []) == [])
        self.assertFalse(Space(1, []) == None)  # noqa: E711

    def test_or(self):
        one, other = Space(3, [(1, 1, 0)]), Space(3, [(0, 0, 2)])
        self.assertTrue((one | other) == Space(3, [(1, 1, 0), (0, 0, 1)]))
        self.assertEqual((one | one).rows, one.rows)
        self.assertEqual((one | Space(3, [])).rows, one.rows)
        self.assertEqual((Space(3, []) | Space(3, [])).rows, [])
        self.assertEqual((one | Space(3, [(1, 1, 0), (0, 0, 1)])).rows, [(1, 1, 0), (0, 0, 1)])
        overlapping = Space(3, [(1, 1, 0), (0, 1, 0)]) | Space(3, [(1, 1, 0), (0, 0, 1)])
        self.assertEqual(overlapping.rows, [(1, 0, 0), (0, 1, 0), (0, 0, 1)])
        self.assertEqual(one.rows, [(1, 1, 0)])
        self.assertEqual(other.rows, [(0, 0, 1)])
        self.assertIs(type(one | other), Space)

    def test_or_many(self):
        draws = Draws(8)
        for _ in range(200):
            width = draws.between(1, 5)
            rows, others = some_space(draws, width), some_space(draws, width)
            both = Space(width, rows) | Space(width, others)
            self.assertEqual(both.rows, reduced(rows + others, width))
            self.assertEqual(both.width, width)

    def test_is_within(self):
        line, plane = Space(3, [(1, 1, 0)]), Space(3, [(1, 0, 0), (0, 1, 0)])
        self.assertIs(line.is_within(plane), True)
        self.assertIs(plane.is_within(line), False)
        self.assertIs(line.is_within(line), True)
        self.assertIs(Space(3, []).is_within(line), True)
        self.assertIs(Space(3, []).is_within(Space(3, [])), True)
        self.assertIs(line.is_within(Space(3, [])), False)
        self.assertIs(line.is_within(Space(3, [(0, 0, 1)])), False)
        self.assertIs(plane.is_within(Space(3, [(1, 0, 0), (0, 0, 1)])), False)
        self.assertIs(Space(2, [(6, 4)]).is_within(other=Space(2, [(9, 6)])), True)

    def test_is_within_many(self):
        draws = Draws(9)
        for _ in range(200):
            width = draws.between(1, 4)
            one, other = Space(width, some_space(draws, width)), Space(width, some_space(draws, width))
            self.assertIs(one.is_within(other), (one | other) == other)

    def test_lists_that_are_changed_do_not_change_the_space(self):
        rows = [(1, 2), (2, 4)]
        space = Space(2, rows)
        rows.append((0, 1))
        rows[0] = (7, 7)
        self.assertEqual(space.rows, [(1, 2)])
        returned = space.rows
        returned.append((0, 1))
        self.assertEqual(space.rows, [(1, 2)])
        self.assertEqual(len(space), 1)
        self.assertFalse((0, 1) in space)
        self.assertIsNot(space.rows, space.rows)
        both = space | Space(2, [])
        both.rows.append((0, 1))
        self.assertEqual((space.rows, both.rows), ([(1, 2)], [(1, 2)]))


class WrongSpaces(unittest.TestCase):
    def test_widths(self):
        for width in strange_values() + ['2', (2,), 2.0, -5]:
            for rows in ([], [(1, 2)], [None]):
                with self.subTest(width=width), self.assertRaises(InvalidRow) as caught:
                    Space(width, rows)
                self.assertIs(caught.exception.value, width)
                self.assertIs(type(caught.exception), InvalidRow)

    def test_rows(self):
        wrong = [(1, True), (False, 2), [1, 2], (1,), (1, 2, 3), (1, '2'), (1, 2.0), 'ab']
        for value in wrong + strange_values():
            for place in range(4):
                rows = [(1, 2), (3, 4), (0, 0)]
                rows.insert(place, value)
                with self.subTest(value=value, place=place), self.assertRaises(InvalidRow) as caught:
                    Space(2, rows)
                self.assertIs(caught.exception.value, value)
                self.assertIs(type(caught.exception), InvalidRow)

    def test_the_first_row_that_does_not_fit(self):
        with self.assertRaises(InvalidRow) as caught:
            Space(2, [(1, 2), (1,), [1, 2]])
        self.assertEqual(caught.exception.value, (1,))

    def test_or_and_is_within(self):
        space = Space(2, [(1, 2)])
        others = [Space(1, []), Space(3, [(1, 2, 3)]), [(1, 2)], (1, 2), 'a', space.rows]
        for value in others + strange_values():
            with self.subTest(value=value), self.assertRaises(InvalidRow) as caught:
                space | value
            self.assertIs(caught.exception.value, value)
            self.assertIs(type(caught.exception), InvalidRow)
            with self.subTest(value=value), self.assertRaises(InvalidRow) as caught:
                space.is_within(value)
            self.assertIs(caught.exception.value, value)
            self.assertIs(type(caught.exception), InvalidRow)
        self.assertEqual(space.rows, [(1, 2)])

    def test_the_methods_stand_in_the_class(self):
        for name in ('width', 'rows', '__contains__', '__len__', '__eq__', '__or__', 'is_within'):
            self.assertIn(name, vars(Space))


if __name__ == '__main__':
    unittest.main()
