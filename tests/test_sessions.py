"""The sessions of the document's section of examples, which tests/sessions.txt holds word for word."""

import ast
import pathlib
import re
import unittest

from pullworks import errors

TEXT = (pathlib.Path(__file__).resolve().parent / "sessions.txt").read_text("ascii")


def sessions():
    """Return (name, rows that are entered, the answer) for each session."""
    found = []
    for name, rows in re.findall(r"^(e\d+):\n\n((?:    .*\n)+)", TEXT, re.MULTILINE):
        rows = [row[4:] for row in rows.splitlines()]
        entered = [row[4:] for row in rows if row.startswith(">>> ")]
        found.append((name, entered, "\n".join(row for row in rows if not row.startswith(">>> "))))
    return found


def answer_of(entered):
    """Return the value of the last row that is entered, or the error that is raised there."""
    known = {}
    for row in entered[:-1]:
        exec(row, known)
    try:
        return eval(entered[-1], known) if not entered[-1].startswith(("from", "import")) else None
    except errors.PullError as error:
        return error


class SessionsTest(unittest.TestCase):

    def test_all_sessions(self):
        self.assertEqual(len(sessions()), 74)
        for name, entered, wanted in sessions():
            with self.subTest(name):
                found = answer_of(entered)
                if wanted.startswith("raises "):
                    error = eval(wanted[len("raises "):], vars(errors).copy())
                    self.assertEqual((type(found), vars(found)), (type(error), vars(error)))
                else:
                    self.assertEqual(found, ast.literal_eval(wanted))
                    self.assertEqual(repr(found), repr(ast.literal_eval(wanted)))


if __name__ == "__main__":
    unittest.main()
