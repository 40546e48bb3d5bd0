"""The interface: the list that is handed in, and the one that is given back."""

import contextlib
import io
import unittest

from seenbacks.table import answers

BEGIN = [0, 3, 2, 7, 20, 5, 11, 12, 13, 21, 22]


class Line(unittest.TestCase):
    def test_each_call_in_its_form(self):
        calls = BEGIN + [5, 0, 2]            # 6 and 7 in the hand of 0
        calls += [3, 0, 6, 3]                # 8 on the field
        calls += [4, 8]
        calls += [2, 0, 7, 0]                # 9 on top of the deck
        calls += [9, 0, 0, 2, 3, 9]          # 10 and 11
        calls += [8, 0, 1]
        calls += [7, 1]                      # 12 and 13
        calls += [10, 1, 0, 5]
        calls += [11, 10]
        calls += [12, 0, 12]
        calls += [1, 8, 2, 0]                # 14
        calls += [6, 0, 1]                   # 15
        expected = [1, 0, 2, 0, 0, 1, 0, 1, 0, 1, 0, 1, 0, 1, 0, 1, 0, 2, 0, 2, 1, 0, 1, 0, 1, 0, 2, 0, 1]
        self.assertEqual(answers(calls), expected)

    def test_refusals_stand_alone(self):
        self.assertEqual(answers([5, 2, 1]), [1, -1])
        self.assertEqual(answers([1, 1, 3, 0]), [1, -2])
        self.assertEqual(answers(BEGIN + [5, 0, 1, 4, 1, 4, 2]), [1, 0, 2, 0, 0, 1, -3, 1, -4])
        self.assertEqual(answers(BEGIN + [9, 0, 0, 2, 1, 1]), [1, 0, 1, -5])
        self.assertEqual(answers(BEGIN + [8, 1, 3, 10, 0, 1, 3]), [1, 0, 1, -7, 2, 0, 2])
        self.assertEqual(answers([0, 1, 0, 0, 1, 1, 5, 5, 0, 1]), [1, 0, 1, -8])

    def test_a_row_is_as_long_as_it_says_whatever_n_says(self):
        self.assertEqual(answers([0, 3, 0, 0, 9, 1, 5, 5, 0, 4]), [1, -1, 2, 0, 4])
        self.assertEqual(answers([0, 0, 0, 0, 9, 2, 5, 5, 5, 0, 4]), [1, -1, 2, 0, 4])
        self.assertEqual(answers([0, 250, 250, 0, 9, 0, 5, 0, 4]), [1, -1, 2, 0, 4])
        self.assertEqual(answers([0, 0, 0, 0, 9, 600] + [5] * 600 + [5, 0, 4]), [1, -1, 2, 0, 4])
        self.assertEqual(answers([9, 0, 0, 600] + [5] * 600 + [5, 0, 4]), [1, -1, 2, 0, 4])
        self.assertEqual(answers([9, 0, 0, 0, 5, 0, 4]), [1, 0, 2, 0, 4])

    def test_a_refused_begin_leaves_what_was(self):
        self.assertEqual(answers(BEGIN + [0, 1, 0, 0, 0, 1, 5, 6, 0, 250]), [1, 0, 1, -1, 2, 0, 3])

    def test_130_calls(self):
        self.assertEqual(answers(BEGIN + [5, 1, 1] * 129), [1, 0] + [2, 0, 0] * 2 + [2, 0, 1] * 127)

    def test_greatest_line(self):
        begin = [0, 250, 250, 1, 20000, 500] + [9] * 500
        calls = begin * 31 + [7, 0, 7, 1] * 38
        self.assertLessEqual(len(calls), 16000)
        self.assertEqual(answers(calls), [1, 0] * 31 + [1, 0] * 76)

    def test_cap_of_20000_reached_just(self):
        begin = [0, 250, 250, 1, 20000, 500] + [9] * 500
        self.assertEqual(answers(begin + [7, 0] * 79), [1, 0] + [1, 0] * 78 + [1, -8])

    def test_handed_in_is_not_changed_and_nothing_is_kept(self):
        calls = BEGIN + [7, 0, 10, 0, 0, 2, 9, 0, 0, 1, 1, 9, 1, 1, 2, 5, 4, 5, 0, 250]
        before = list(calls)
        first = answers(calls)
        self.assertEqual(calls, before)
        self.assertEqual(answers(calls), first)
        self.assertEqual(answers([5, 0, 1]), [2, 0, 1])

    def test_kinds_of_what_is_given_back(self):
        told = answers(BEGIN + [5, 0, 250, 5, 7, 7, 10, 0, 1, 1])
        self.assertIs(type(told), list)
        self.assertEqual([type(number) for number in told], [int] * len(told))

    def test_prints_nothing(self):
        printed = io.StringIO()
        with contextlib.redirect_stdout(printed), contextlib.redirect_stderr(printed):
            answers(BEGIN + [7, 0, 1, 99, 0, 0])
        self.assertEqual(printed.getvalue(), "")
