import unittest

from leadalike import errors

# Each class with its built-in base and the names of its arguments.
CLASSES = (
    ("InvalidProgram", ValueError, ("part",)),
    ("InvalidFacts", ValueError, ("index",)),
    ("InvalidWishes", ValueError, ("index",)),
    ("InvalidOptions", ValueError, ("index",)),
    ("InvalidClaim", ValueError, ("part",)),
    ("ParseError", ValueError, ("line",)),
    ("NotThere", LookupError, ()),
    ("AlreadyThere", RuntimeError, ()),
    ("Full", RuntimeError, ()),
    ("Unkept", RuntimeError, ("index",)),
    ("Refused", RuntimeError, ("index", "reason")),
    ("NothingDone", RuntimeError, ()),
    ("LimitExceeded", OverflowError, ("limit",)),
)
# Two arguments of unlike kinds and values, so that an exchange of them shows.
VALUES = ((7, "NotThere"), ("rules", 3), (None, None), (-1, None), (0, ""))


class ErrorClasses(unittest.TestCase):
    def test_there_are_thirteen(self):
        found = [name for name, value in vars(errors).items() if isinstance(value, type)]
        self.assertEqual(sorted(found), sorted(name for name, _, _ in CLASSES))
        self.assertEqual(len(found), 13)

    def test_each_is_defined_in_this_file(self):
        for name, _, _ in CLASSES:
            self.assertEqual(getattr(errors, name).__module__, "leadalike.errors")

    def test_the_base_is_the_named_one_and_the_only_one(self):
        for name, base, _ in CLASSES:
            with self.subTest(name):
                self.assertEqual(getattr(errors, name).__bases__, (base,))

    def test_arguments_by_place_are_kept_under_their_names(self):
        for name, _, names in CLASSES:
            for values in VALUES:
                with self.subTest(name, values=values):
                    error = getattr(errors, name)(*values[:len(names)])
                    self.assertEqual(vars(error), dict(zip(names, values)))

    def test_arguments_by_name_are_kept_under_their_names(self):
        for name, _, names in CLASSES:
            for values in VALUES:
                with self.subTest(name, values=values):
                    told = dict(zip(names, values))
                    self.assertEqual(vars(getattr(errors, name)(**told)), told)

    def test_arguments_by_name_in_any_order(self):
        error = errors.Refused(reason="Full", index=4)
        self.assertEqual((error.index, error.reason), (4, "Full"))

    def test_one_by_place_and_one_by_name(self):
        error = errors.Refused(4, reason="Full")
        self.assertEqual((error.index, error.reason), (4, "Full"))

    def test_each_is_raised_and_caught_by_its_base(self):
        for name, base, names in CLASSES:
            with self.subTest(name):
                with self.assertRaises(base) as caught:
                    raise getattr(errors, name)(*range(len(names)))
                self.assertEqual([getattr(caught.exception, word) for word in names], list(range(len(names))))

    def test_two_errors_of_a_class_keep_their_own(self):
        one, other = errors.InvalidFacts(1), errors.InvalidFacts(2)
        self.assertEqual((one.index, other.index), (1, 2))

    def test_an_argument_that_is_missing_or_too_many(self):
        for name, _, names in CLASSES:
            if names:
                with self.subTest(name):
                    self.assertRaises(TypeError, getattr(errors, name), *range(len(names) - 1))
                    self.assertRaises(TypeError, getattr(errors, name), *range(len(names) + 1))


if __name__ == "__main__":
    unittest.main()
