"""The examples of the interface, as they stand in examples.txt: each a session of `>>>` lines and what it says."""

import pathlib
import unittest

from sameroom.errors import RoomError

EXAMPLES = pathlib.Path(__file__).with_name("examples.txt").read_text().rstrip("\n").split("\n\n")


def said(lines):
    """What the last line says: the value that it returns, or the error that it raises with its fields."""
    names = {}
    try:
        for line in lines[:-1]:
            exec(line, names)
        return repr(eval(lines[-1], names))
    except RoomError as error:
        fields = ", ".join(f"{field}={worth!r}" for field, worth in vars(error).items())
        return f"raises {type(error).__name__}({fields})"


class ExampleTest(unittest.TestCase):
    def test_examples(self):
        self.assertGreater(len(EXAMPLES), 0)
        for example in EXAMPLES:
            rows = example.split("\n")
            lines = [row.removeprefix(">>> ") for row in rows if row.startswith(">>> ")]
            with self.subTest(example):
                self.assertEqual(said(lines), "\n".join(rows[len(lines):]))


if __name__ == "__main__":
    unittest.main()
