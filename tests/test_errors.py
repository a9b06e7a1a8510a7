"""[23]: the errors, their bases, and what they keep."""

import unittest

from paidbyheirs import errors

KEEPS = {"NoRow": ("number",), "NoVersion": ("number",), "NoSlot": ("slot",), "NothingDone": (),
         "BadLine": ("number",), "CanNot": (), "TooMany": (), "Unfit": ()}
BASES = {"NoRow": LookupError, "NoVersion": LookupError, "NoSlot": LookupError, "NothingDone": LookupError,
         "BadLine": ValueError, "CanNot": ValueError, "TooMany": ValueError, "Unfit": ValueError}


class Errors(unittest.TestCase):

    def test_each_stands_directly_under_its_base_alone(self):
        for name, base in BASES.items():
            self.assertEqual(getattr(errors, name).__bases__, (base,), name)

    def test_there_are_these_eight(self):
        own = [name for name, value in vars(errors).items() if isinstance(value, type)]
        self.assertEqual(sorted(own), sorted(BASES))

    def test_each_keeps_what_it_is_given_by_position(self):
        for name, kept in KEEPS.items():
            for value in (0, 7, -1, 10 ** 30, (1, 2)):
                error = getattr(errors, name)(*[value for _ in kept])
                self.assertEqual(vars(error), {word: value for word in kept}, name)

    def test_each_keeps_what_it_is_given_by_name(self):
        for name, kept in KEEPS.items():
            error = getattr(errors, name)(**{word: 4 for word in kept})
            self.assertEqual(vars(error), {word: 4 for word in kept}, name)

    def test_each_asks_for_what_it_keeps(self):
        for name, kept in KEEPS.items():
            if kept:
                with self.assertRaises(TypeError):
                    getattr(errors, name)()

    def test_each_is_raised_and_caught_by_name_and_base(self):
        for name, kept in KEEPS.items():
            for caught in (getattr(errors, name), BASES[name]):
                with self.assertRaises(caught):
                    raise getattr(errors, name)(*[3 for _ in kept])


if __name__ == "__main__":
    unittest.main()
