"""[The interface] The errors: their base, their values, and how they are caught."""

import unittest

from contractheirs import errors
from tests.support import VALUED


class Errors(unittest.TestCase):

    def test_base(self):
        self.assertEqual(errors.ContractError.__bases__, (ValueError,))
        for name in [*VALUED, "TooLong", "TooDeep"]:
            self.assertEqual(getattr(errors, name).__bases__, (errors.ContractError,), name)

    def test_there_are_no_others(self):
        found = [name for name, made in vars(errors).items() if isinstance(made, type)]
        self.assertEqual(sorted(found), sorted([*VALUED, "ContractError", "TooLong", "TooDeep"]))

    def test_values_are_the_objects_that_were_passed(self):
        for name, values in VALUED.items():
            passed = [[name, k] for k, _ in enumerate(values)]
            made = getattr(errors, name)(*passed)
            for value, thing in zip(values, passed):
                self.assertIs(getattr(made, value), thing, name)
            self.assertEqual(list(vars(made)), list(values), name)

    def test_values_of_any_kind(self):
        for thing in [None, True, (), [], {}, object(), len, ValueError, "x"]:
            for name, values in VALUED.items():
                made = getattr(errors, name)(*[thing] * len(values))
                for value in values:
                    self.assertIs(getattr(made, value), thing)

    def test_exactly_these_values(self):
        for name, values in VALUED.items():
            for many in (len(values) - 1, len(values) + 1):
                with self.assertRaises(TypeError):
                    getattr(errors, name)(*range(many))

    def test_raised_and_caught(self):
        for name, values in VALUED.items():
            made = getattr(errors, name)
            for base in (made, errors.ContractError, ValueError):
                with self.assertRaises(base) as caught:
                    raise made(*range(len(values)))
                self.assertEqual([getattr(caught.exception, value) for value in values], list(range(len(values))))

    def test_one_is_not_caught_as_another(self):
        for name, values in VALUED.items():
            made = getattr(errors, name)(*values)
            for other in [*VALUED, "TooLong", "TooDeep"]:
                self.assertEqual(isinstance(made, getattr(errors, other)), name == other)

    def test_too_long_and_too_deep(self):
        for made in (errors.TooLong, errors.TooDeep):
            for base in (made, errors.ContractError, ValueError):
                with self.assertRaises(base) as caught:
                    raise made("so long")
                self.assertEqual(str(caught.exception), "so long")

    def test_shown_as_in_the_document(self):
        self.assertEqual(repr(errors.BadLibrary("a", "ring")), "BadLibrary('a', 'ring')")


if __name__ == "__main__":
    unittest.main()
