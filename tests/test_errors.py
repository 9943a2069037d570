import unittest

from freshplaces import errors
from freshplaces.errors import FreshError, LimitExceeded, UnknownProcedure

FIELDS = {
    'InvalidText': 'value', 'InvalidSyntax': 'position', 'InvalidTree': 'value', 'DuplicateName': 'name',
    'UnknownName': 'name', 'InvalidCall': 'place', 'InvalidCarry': 'place', 'InvalidFormula': 'value',
    'TooLarge': 'word', 'TooMany': 'word', 'InvalidRow': 'value', 'InvalidEntry': 'value',
    'InvalidChoices': 'value', 'InvalidAction': 'value', 'InvalidWeights': 'value', 'InvalidFaults': 'value',
    'InvalidEvent': 'value', 'InvalidQuestion': 'position', 'InvalidCommand': 'word',
}
OTHERS = {'UnknownProcedure': 'name', 'LimitExceeded': 'word'}
VALUES = [None, 0, 17, -3, 10 ** 5000, True, '', 'main', b'x', [1, [2]], (1, 'a'), {'k': 1}, {3}, object(), len]


class Errors(unittest.TestCase):
    def test_there_are_nineteen(self):
        self.assertEqual(len(FIELDS), 19)

    def test_fields_by_position_and_by_name(self):
        for name, field in {**FIELDS, **OTHERS}.items():
            made = getattr(errors, name)
            for value in VALUES:
                with self.subTest(name=name, value=type(value)):
                    self.assertIs(getattr(made(value), field), value)
                    self.assertIs(getattr(made(**{field: value}), field), value)

    def test_the_parameter_is_needed_and_the_only_one(self):
        for name, field in {**FIELDS, **OTHERS}.items():
            made = getattr(errors, name)
            with self.subTest(name=name):
                self.assertRaises(TypeError, made)
                self.assertRaises(TypeError, made, 1, 2)
                self.assertRaises(TypeError, made, **{'other': 1})

    def test_a_field_is_kept_on_an_error_that_is_raised(self):
        value = [1]
        for name, field in {**FIELDS, **OTHERS}.items():
            made = getattr(errors, name)
            with self.subTest(name=name), self.assertRaises(made) as caught:
                raise made(value)
            self.assertIs(getattr(caught.exception, field), value)

    def test_direct_subclasses_of_fresh_error(self):
        for name in FIELDS:
            with self.subTest(name=name):
                self.assertEqual(getattr(errors, name).__bases__, (FreshError,))
        self.assertEqual(FreshError.__bases__, (ValueError,))

    def test_none_is_a_subclass_of_another_one(self):
        names = list(FIELDS) + list(OTHERS)
        for one in names:
            for other in names:
                if one != other:
                    with self.subTest(one=one, other=other):
                        self.assertFalse(issubclass(getattr(errors, one), getattr(errors, other)))

    def test_the_two_that_are_no_fresh_errors(self):
        self.assertEqual(UnknownProcedure.__bases__, (KeyError,))
        self.assertEqual(LimitExceeded.__bases__, (RuntimeError,))
        for made in (UnknownProcedure, LimitExceeded):
            self.assertFalse(issubclass(made, ValueError))

    def test_the_nineteen_are_of_no_other_kind(self):
        for name in FIELDS:
            with self.subTest(name=name):
                self.assertTrue(issubclass(getattr(errors, name), ValueError))
                self.assertFalse(issubclass(getattr(errors, name), (KeyError, RuntimeError)))

    def test_messages_can_be_written(self):
        for name in list(FIELDS) + list(OTHERS):
            for value in VALUES:
                with self.subTest(name=name, value=type(value)):
                    self.assertTrue(str(getattr(errors, name)(value)))


if __name__ == '__main__':
    unittest.main()
