"""The interface: one list of whole numbers in, one list of whole numbers out, and nothing kept."""

import unittest

from scripttold.desk import answers
from tests.helper import (BRANCH, FAIR, FAR, REACH, ROUTE, SEAT, SHOW, SIZES, STATE, TILL, ask, find, load, octets,
                          split)

LINE = [number for call in [
    [SIZES], load(TILL), [SHOW], [SIZES], [SEAT, 3], [STATE, 0], [BRANCH, 0, 0], find("Pay"), find("Sell"), [REACH, 1],
    [ROUTE, 2], load("script A-"), [SEAT, -FAR], load(FAIR), [ROUTE, 5], [BRANCH, 1, 1], [STATE, FAR], load(""), [SHOW],
] for number in call]


class Interface(unittest.TestCase):

    def test_a_whole_line(self):
        form = octets(TILL)
        self.assertEqual(answers(load(TILL) + [SHOW, SEAT, 3] + find("Pass") + [STATE, 9] + load("script A-")),
                         [1, 1, len(form) + 1, len(form)] + form +
                         [6, 1, 4, 68, 101, 115, 107, 1, 1, 1, -2, 3, 0, 2, 8])

    def test_the_empty_text(self):
        self.assertEqual(answers([0, 0]), [3, 0, 3, 0])
        self.assertEqual(answers([6, 0]), [1, -1])

    def test_what_is_handed_in_stays(self):
        calls = list(LINE)
        answers(calls)
        self.assertEqual(calls, LINE)

    def test_twice_the_same(self):
        first = answers(LINE)
        self.assertEqual(answers(LINE), first)
        self.assertEqual(answers(list(LINE)), first)
        self.assertIsNot(answers(LINE), answers(LINE))

    def test_nothing_is_kept_from_one_line_to_the_next(self):
        answers(load(TILL))
        self.assertEqual(answers([SIZES]), [1, -1])

    def test_whole_numbers_alone(self):
        told = answers(LINE)
        self.assertIs(type(told), list)
        self.assertEqual({type(number) for number in told}, {int})

    def test_only_a_refusal_begins_below_0(self):
        for told in split(answers(LINE)):
            self.assertTrue(told[0] >= 0 or len(told) == 1, told)

    def test_400_calls(self):
        told = ask(load(TILL), *[[SHOW]] * 399)
        self.assertEqual(len(told), 400)
        self.assertEqual(told[1:], [[len(TILL)] + octets(TILL)] * 399)

    def test_many_loads(self):
        told = ask(*[load(text) for text in [TILL, "", FAIR, "-"] * 10] + [[SIZES]])
        self.assertEqual(told, [[1], [0, 3, 0], [1], [0, 2, 0]] * 10 + [[3, 3, 7, 0, 7]])
