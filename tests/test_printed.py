"""The sessions that the document prints: one after the other, each going on from the one before."""

import pathlib
import unittest

from flashtrees import errors

PRINTED = pathlib.Path(__file__).with_name("printed.txt")


def steps_of(text):
    """The pairs of a line that is typed and what is printed below it."""
    for part in text.split(">>> ")[1:]:
        typed, _, answer = part.partition("\n")
        yield typed, answer.strip()


def error_text(error):
    kept = ", ".join(f"{name}={value!r}" for name, value in vars(error).items())
    return f"raises {error.__class__.__name__}({kept})"


def answer_to(typed, names):
    try:
        code = compile(typed, "printed", "eval")
    except SyntaxError:
        exec(typed, names)
        return ""
    try:
        value = eval(code, names)
    except errors.FlashError as error:
        return error_text(error)
    return "" if value is None else repr(value)


class PrintedTest(unittest.TestCase):
    def test_the_printed_sessions_hold(self):
        names = {}
        steps = list(steps_of(PRINTED.read_text()))
        self.assertEqual(len(steps), 89)
        for typed, answer in steps:
            with self.subTest(typed=typed):
                self.assertEqual(answer_to(typed, names), answer)


if __name__ == "__main__":
    unittest.main()
