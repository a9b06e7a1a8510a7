"""The examples of the document, as they stand there, in their order."""

import ast
import os
import unittest

from tests.interface import INTERFACE, found

FOLDER = os.path.join(os.path.dirname(os.path.abspath(__file__)), "examples")


def examples(text):
    """The pairs of each line that is run and what it is said to return, None if nothing is said."""
    told = []
    for line in text.splitlines():
        if line.startswith(">>> "):
            told.append([line[4:], None])
        else:
            told[-1][1] = line
    return told


def shown(error):
    """error as the document writes it."""
    kept = ", ".join(f"{name}={value!r}" for name, value in vars(error).items())
    return f"raises {type(error).__name__}({kept})"


class Examples(unittest.TestCase):

    def test_all_of_them(self):
        names = {name: found(path, name) for path, table in INTERFACE.items() for name in table}
        many = 0
        for file in sorted(os.listdir(FOLDER)):
            with open(os.path.join(FOLDER, file), encoding="utf-8") as held:
                for code, said in examples(held.read()):
                    with self.subTest(file=file, code=code):
                        self.run_one(names, code, said)
                    many += said is not None
        self.assertEqual(many, 128)

    def run_one(self, names, code, said):
        if said is None:
            exec(code, names)
        elif said.startswith("raises "):
            with self.assertRaises((LookupError, ValueError)) as caught:
                eval(code, names)
            self.assertEqual(shown(caught.exception), said)
        else:
            # By repr, as True == 1 and the kinds of values are promised too.
            self.assertEqual(repr(eval(code, names)), repr(ast.literal_eval(said)))


if __name__ == "__main__":
    unittest.main()
