"""The interface: the list that is handed in, and the one that is given back."""

import contextlib
import io
import unittest

from seenbacks.table import answers
from tests.helper import split_answers

BEGIN = [0, 3, 2, 7, 20, 5, 11, 12, 13, 21, 22]
GREATEST_BEGIN = [0, 250, 250, 0, 20000, 500] + list(range(500))


class Line(unittest.TestCase):
    def test_each_call_in_its_form(self):
        calls = BEGIN + [5, 0, 2]            # 6 and 7 in the hand of 0
        calls += [3, 0, 6, 3]                # 8 on the field
        calls += [4, 8]
        calls += [2, 0, 7, 0]                # 9 on top of the deck
        calls += [9, 0, 0, 2, 3, 9]          # 10 and 11
        calls += [8, 0, 1]
        calls += [7, 1]                      # 12 and 13
        calls += [10, 1, 0, 5]
        calls += [11, 10]
        calls += [12, 0, 12]
        calls += [1, 8, 2, 0]                # 14
        calls += [6, 0, 1]                   # 15
        expected = [1, 0, 2, 0, 0, 1, 0, 1, 0, 1, 0, 1, 0, 1, 0, 1, 0, 2, 0, 2, 1, 0, 1, 0, 1, 0, 2, 0, 1]
        self.assertEqual(answers(calls), expected)

    def test_each_call_that_shows_or_asks_in_its_form(self):
        calls = BEGIN + [14, 0, 12, 3]       # 6 in the void, 7 in the hand of 0
        calls += [15, 1]                     # 8 in the void
        calls += [13, 2, 0]
        calls += [18, 0, 5, 2]               # 9 and 10 on the field
        calls += [11, 3]
        calls += [22, 0]
        calls += [22, 1]
        calls += [19, 0, 3]                  # 11 in the hand of 0
        calls += [20, 1, 2]
        calls += [21, 1, 7]
        calls += [21, 1, 11]
        calls += [17, 0, 13]                 # 12 in the void
        calls += [16, 0]                     # 13 in the void
        calls += [23, 1]
        calls += [24, 4]
        expected = [1, 0, 3, 0, 1, 1, 2, 0, 2, 2, 0, 1, 3, 0, 9, 10, 1, 0, 2, 0, 3, 3, 0, 3, 7, 1, 0,
                    5, 0, 7, 12, 0, -1, 3, 0, 1, 12, 2, 0, 0, 2, 0, 1, 2, 0, 1, 2, 0, 22, 7, 0, 13, 12, 12, 13, 6, 11]
        self.assertEqual(answers(calls), expected)

    def test_refusals_stand_alone(self):
        self.assertEqual(answers([5, 2, 1]), [1, -1])
        self.assertEqual(answers([1, 1, 3, 0]), [1, -2])
        self.assertEqual(answers(BEGIN + [5, 0, 1, 4, 1, 4, 2]), [1, 0, 2, 0, 0, 1, -3, 1, -4])
        self.assertEqual(answers(BEGIN + [9, 0, 0, 2, 1, 1]), [1, 0, 1, -5])
        self.assertEqual(answers(BEGIN + [8, 1, 3, 10, 0, 1, 3]), [1, 0, 1, -7, 2, 0, 2])
        self.assertEqual(answers([0, 1, 0, 0, 1, 1, 5, 5, 0, 1]), [1, 0, 1, -8])

    def test_a_row_is_as_long_as_it_says_whatever_n_says(self):
        self.assertEqual(answers([0, 3, 0, 0, 9, 1, 5, 5, 0, 4]), [1, -1, 2, 0, 4])
        self.assertEqual(answers([0, 0, 0, 0, 9, 2, 5, 5, 5, 0, 4]), [1, -1, 2, 0, 4])
        self.assertEqual(answers([0, 250, 250, 0, 9, 0, 5, 0, 4]), [1, -1, 2, 0, 4])
        self.assertEqual(answers([0, 0, 0, 0, 9, 600] + [5] * 600 + [5, 0, 4]), [1, -1, 2, 0, 4])
        self.assertEqual(answers([9, 0, 0, 600] + [5] * 600 + [5, 0, 4]), [1, -1, 2, 0, 4])
        self.assertEqual(answers([9, 0, 0, 0, 5, 0, 4]), [1, 0, 2, 0, 4])

    def test_a_refused_begin_leaves_what_was(self):
        self.assertEqual(answers(BEGIN + [0, 1, 0, 0, 0, 1, 5, 6, 0, 250]), [1, 0, 1, -1, 2, 0, 3])

    def test_130_calls(self):
        self.assertEqual(answers(BEGIN + [5, 1, 1] * 129), [1, 0] + [2, 0, 0] * 2 + [2, 0, 1] * 127)

    def test_greatest_line(self):
        begin = [0, 250, 250, 1, 20000, 500] + [9] * 500
        calls = begin * 31 + [7, 0, 7, 1] * 38
        self.assertLessEqual(len(calls), 16000)
        self.assertEqual(answers(calls), [1, 0] * 31 + [1, 0] * 76)

    def test_cap_of_20000_reached_just(self):
        begin = [0, 250, 250, 1, 20000, 500] + [9] * 500
        self.assertEqual(answers(begin + [7, 0] * 79), [1, 0] + [1, 0] * 78 + [1, -8])

    def test_130_calls_upon_decks_of_250(self):
        asks = [[24, 0], [24, 1], [20, 0, 0], [20, 1, 1], [22, 0], [22, 1], [23, 0], [23, 1], [21, 0, 1], [20, 0, 3]]
        calls = GREATEST_BEGIN + [10, 0, 0, 250, 10, 1, 1, 250] + [number for ask in asks for number in ask] * 12
        calls += [23, 0] * 7
        before = list(calls)
        told = split_answers(answers(calls))
        self.assertEqual(calls, before)
        self.assertEqual(len(told), 130)
        decks = [[number for card in range(start, start + 250) for number in (card, card - 1)] for start in (1, 251)]
        in_turn = [decks[0], decks[1], decks[0], decks[1], list(range(1, 251)), list(range(251, 501)), [], [],
                   [1, 0], []]
        self.assertEqual(told[:3], [[0], [0, 250], [0, 250]])
        self.assertEqual(told[3:], [[0] + row for row in in_turn] * 12 + [[0]] * 7)

    def test_hidden_decks_of_250(self):
        calls = GREATEST_BEGIN + [20, 0, 0, 20, 1, 0, 23, 0, 23, 1, 22, 0]
        told = split_answers(answers(calls))
        self.assertEqual(told[1:3], [[0] + [0, -1] * 250] * 2)
        self.assertEqual(told[3:], [[0] + list(range(250)), [0] + list(range(250, 500)), [0]])

    def test_hands_and_voids_of_250(self):
        begin = [0, 250, 250, 0, 20000, 500] + [7] * 250 + [8] * 250
        calls = begin + [5, 0, 250, 17, 0, 7, 24, 4, 14, 1, 9, 250, 24, 5]
        told = split_answers(answers(calls))
        void = [number for at in range(1000, 750, -1) for number in (at, 7)]
        other = [number for at in range(1250, 1000, -1) for number in (at, 8)]
        self.assertEqual(told, [[0], [0, 0], [0, 250], [0] + void, [0, 0, 250], [0] + other])

    def test_12800_tokens(self):
        calls = [0, 0, 0, 0, 20000, 0] + [18, 0, 3, 100] * 128 + [24, 6]
        told = split_answers(answers(calls))
        self.assertEqual(told[128], [0] + list(range(12701, 12801)))
        self.assertEqual(told[129], [0] + [number for at in range(1, 12801) for number in (at, 3)])

    def test_handed_in_is_not_changed_and_nothing_is_kept(self):
        calls = BEGIN + [7, 0, 10, 0, 0, 2, 9, 0, 0, 1, 1, 9, 1, 1, 2, 5, 4, 5, 0, 250]
        calls += [13, 2, 0, 16, 0, 17, 0, 11, 18, 1, 4, 2, 15, 1, 14, 1, 5, 2, 22, 1, 23, 0, 24, 6, 20, 0, 5]
        before = list(calls)
        first = answers(calls)
        self.assertEqual(calls, before)
        self.assertEqual(answers(calls), first)
        self.assertEqual(answers([5, 0, 1]), [2, 0, 1])

    def test_kinds_of_what_is_given_back(self):
        told = answers(BEGIN + [5, 0, 250, 5, 7, 7, 10, 0, 1, 1, 14, 1, 21, 2, 13, 2, 1, 21, 0, 1, 24, 2, 20, 1, 2])
        self.assertIs(type(told), list)
        self.assertEqual([type(number) for number in told], [int] * len(told))

    def test_prints_nothing(self):
        printed = io.StringIO()
        with contextlib.redirect_stdout(printed), contextlib.redirect_stderr(printed):
            answers(BEGIN + [7, 0, 1, 99, 0, 0])
        self.assertEqual(printed.getvalue(), "")
