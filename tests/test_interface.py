"""The one function: how calls and answers lie in a list, and that it keeps, changes and prints nothing."""

import builtins
import contextlib
import io
import pathlib
import re
import unittest
from unittest import mock

from lines import flat, opening, passing, told, walkin
from pushedtables.house import answers

LINE = flat([opening(1, 10, [4, 2], [], [6]), [1, 6, 20, 30], [4, 3, 10], [3, 1], [6, 2, 5], [5, 2], [2, 1], [7, 9],
             [1, 6, 80, 10], [8], [9, 6, 20], [6, 1, 40], [10], [8], [15], [11], [12, 2], [13], [14, 3], [14, 1], [15]])
ANSWERED = [1, 0, 2, 0, 1, 5, 0, 2, 1, 1, 1, 4, 0, 3, 1, 1, 2, 0, 0, 1, 0, 1, -8, 2, 0, 9,
            2, 0, 3, 6, 0, 1, 3, 3, 1, 1, 3, 0, 1, 100, 2, 0, 1, 3, 0, 1, 3, 1, -11,
            14, 0, 9, 3, 1, 1, 0, 1, 10, 2, 4, 2, 0, 1, 6, 3, 0, 1, 3, 5, 0, 1, 1, 2, 2, 7, 0, 2, 10, 0, 0, 1, 100,
            8, 0, 6, 80, 90, 5, 0, 0, 0, 8, 0, 6, 0, 90, 1, 3, 1, 1, 14, 0, 9, 3, 0, 1, 1, 1, 10, 2, 4, 2, 0, 1, 6]


class WatchedList(list):
    """Counts how often it is changed."""

    changes = 0

    def watched(name):
        def change(self, *given, **named):
            WatchedList.changes += 1
            return getattr(list, name)(self, *given, **named)
        return change

    for name in ("append", "clear", "extend", "insert", "pop", "remove", "reverse", "sort",
                 "__setitem__", "__delitem__", "__iadd__", "__imul__"):
        locals()[name] = watched(name)


class Interface(unittest.TestCase):
    def test_how_answers_lie_in_the_list(self):
        self.assertEqual(answers(LINE), ANSWERED)

    def test_the_calls_without_numbers(self):
        self.assertEqual(answers([0, 0, 0, 1, 4, 0, 0, 8, 10, 11, 13, 15, 8, 9, 4, 1, 12, 4, 14, 1, 15]),
                         [1, 0, 2, 0, 0, 2, 0, 0, 2, 0, 0, 3, 0, 0, 0, 12, 0, 0, 0, 0, 0, 1, 0, 0, 1, 4, 0, 0, 2, 0, 0,
                          3, 0, 1, 0, 5, 0, 1, 1, 1, 1, 1, -7, 12, 0, 0, 0, 0, 0, 1, 0, 0, 1, 4, 0, 0])

    def test_how_calls_lie_in_the_list(self):
        self.assertEqual(answers([7, 1]), [1, -2])
        self.assertEqual(answers([0, 0, 0, 1, 4, 0, 0]), [1, 0])
        self.assertEqual(answers([0, 0, 0, 1, 4, 2, 5, 6, 1, 7, 4, 6, 1, 4, 7, 1]), [1, 0, 5, 0, 1, 2, 2, 2, 5, 0, 2, 3, 1, 1])

    def test_the_numbers_of_a_row_are_not_taken_for_calls(self):
        # Rows of 100 numbers that look like calls, and a call right behind them.
        row = [7] * 100
        self.assertEqual(told(opening(0, 0, row, row, row), passing(1), opening(0, 0, [4]), passing(7)), [[-1], [-2], [0], [0, 7]])

    def test_the_example_in_the_readme(self):
        text = (pathlib.Path(__file__).parent.parent / "README.md").read_text()
        calls, told_there = re.search(r"\nanswers\(\[\n(.*?)\]\)\n# \[(.*?)\]", text, re.DOTALL).groups()
        line = [int(number) for number in re.findall(r"-?\d+", re.sub(r"#.*", "", calls))]
        self.assertEqual(answers(line), [int(number) for number in re.findall(r"-?\d+", told_there)])

    def test_the_list_is_whole_numbers_in_a_list(self):
        given = answers(LINE)
        self.assertIs(type(given), list)
        self.assertEqual({type(number) for number in given}, {int})

    def test_what_is_handed_in_is_the_same(self):
        line = WatchedList(LINE)
        WatchedList.changes = 0
        self.assertEqual(answers(line), ANSWERED)
        self.assertEqual(WatchedList.changes, 0)
        self.assertEqual(line, LINE)

    def test_nothing_is_kept(self):
        first = answers(LINE)
        first.append(5)
        answers(flat([opening(3, 60, [1]), walkin(1, 600)]))
        self.assertEqual(answers(LINE), ANSWERED)
        self.assertEqual(answers([7, 1]), [1, -2])

    def test_nothing_is_printed_read_or_imported(self):
        def forbidden(*given, **named):
            raise AssertionError("read or imported")
        out = io.StringIO()
        err = io.StringIO()
        with contextlib.redirect_stdout(out), contextlib.redirect_stderr(err):
            with mock.patch.object(builtins, "__import__", forbidden), mock.patch.object(builtins, "open", forbidden), \
                    mock.patch.object(builtins, "input", forbidden):
                given = answers(LINE)
        self.assertEqual((given, out.getvalue(), err.getvalue()), (ANSWERED, "", ""))


if __name__ == "__main__":
    unittest.main()
