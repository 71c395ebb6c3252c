"""The interface: one list of whole numbers in, one list of whole numbers out, and nothing kept."""

import unittest

from scripttold.desk import answers
from tests.helper import (BACK, BEGIN, BRANCH, CHOOSE, FAIR, FAR, NEST, OPTIONS, REACH, ROUTE, RUN, SEAT, SHOW, SIZES,
                          STANDING, STATE, TALKING, TIDY, TILL, TOLD, alike, ask, ask_of, find, load, octets, row, run,
                          split, talk)

LINE_CALLS = [
    [SIZES], [TIDY], [BEGIN], run(1, 2), load(TILL), [SHOW], [SIZES], [SEAT, 3], [STATE, 0], [BRANCH, 0, 0],
    find("Pay"), find("Sell"), [REACH, 1], [ROUTE, 2], load("script A-"), [SEAT, -FAR], load(FAIR), [ROUTE, 5],
    [BRANCH, 1, 1], [STATE, FAR], load(""), [SHOW],
    [STANDING], [BEGIN], [OPTIONS], [CHOOSE, 3], [CHOOSE, -FAR], run(FAR, -FAR, 0), [TOLD], [STANDING], [BACK], [BACK],
    alike(FAIR), alike(TILL), alike("no"), [OPTIONS], [TIDY], [SHOW], [TOLD], load(NEST), [BEGIN], run(*range(50)),
    [TIDY], [BEGIN], run(*[0] * 1500), [CHOOSE, 0], [TOLD], [STANDING],
]
LINE = [number for call in LINE_CALLS for number in call]


class Interface(unittest.TestCase):

    def test_a_whole_line(self):
        form = octets(TILL)
        self.assertEqual(answers(load(TILL) + [SHOW, SEAT, 3] + find("Pass") + [STATE, 9] + load("script A-")),
                         [1, 1, len(form) + 1, len(form)] + form +
                         [6, 1, 4, 68, 101, 115, 107, 1, 1, 1, -2, 3, 0, 2, 8])

    def test_a_whole_telling(self):
        loop = talk("a() S ; b() E", rest="E = end")
        line = load(loop) + [OPTIONS, BEGIN, RUN, 3, 0, 2, -2, STANDING, RUN, 0, TOLD, CHOOSE, 1, CHOOSE, 0, BACK, TIDY]
        self.assertEqual(answers(line + [BACK] + alike(loop) + alike("-")),
                         [1, 1, 1, -5, 1, 2, 1, 3, 2, 1, 0, 1, 0, 7, 3, 0, 0, 0, 0, 0, 0, 5, 0, 1, 0, 1, 1, 1, -6, 1, 2,
                          1, 0, 1, -5, 1, 1, 1, -3])

    def test_every_call_is_met(self):
        self.assertEqual({call[0] for call in LINE_CALLS}, set(range(18)))

    def test_the_empty_text(self):
        self.assertEqual(answers([0, 0]), [3, 0, 3, 0])
        self.assertEqual(answers([6, 0]), [1, -1])
        self.assertEqual(answers([10, 0]), [1, -1])
        self.assertEqual(answers([16, 0]), [1, -1])

    def test_what_is_handed_in_stays(self):
        calls = list(LINE)
        answers(calls)
        self.assertEqual(calls, LINE)

    def test_twice_the_same(self):
        first = answers(LINE)
        self.assertEqual(answers(LINE), first)
        self.assertEqual(answers(list(LINE)), first)
        self.assertIsNot(answers(LINE), answers(LINE))

    def test_nothing_is_kept_from_one_line_to_the_next(self):
        answers(load(TILL) + [BEGIN, CHOOSE, 0])
        self.assertEqual(answers([SIZES]), [1, -1])
        self.assertEqual(answers([STANDING]), [1, -1])
        self.assertEqual(answers(load(TILL) + [STANDING]), [1, 1, 1, -5])
        self.assertEqual(answers(load(TILL) + [BEGIN, TOLD]), [1, 1, 1, 2, 1, 0])

    def test_whole_numbers_alone(self):
        told = answers(LINE)
        self.assertIs(type(told), list)
        self.assertEqual({type(number) for number in told}, {int})

    def test_only_a_refusal_begins_below_0(self):
        for told in split(answers(LINE)):
            self.assertTrue(told[0] >= 0 or len(told) == 1, told)

    def test_400_calls(self):
        told = ask(load(TILL), *[[SHOW]] * 399)
        self.assertEqual(len(told), 400)
        self.assertEqual(told[1:], [[len(TILL)] + octets(TILL)] * 399)

    def test_many_loads(self):
        told = ask(*[load(text) for text in [TILL, "", FAIR, "-"] * 10] + [[SIZES]])
        self.assertEqual(told, [[1], [0, 3, 0], [1], [0, 2, 0]] * 10 + [[3, 3, 7, 0, 7]])

    def test_400_calls_of_a_telling(self):
        told = ask_of(TILL, [BEGIN], *[[CHOOSE, 0], [STANDING], [BACK]] * 132, [TOLD], [CHOOSE, 1])
        self.assertEqual(told[1:-2], [[0, 3, 0, 0, 1], [1, 1], [2]] * 132)
        self.assertEqual(told[-2:], [[0], [0, 3, 0, 1, 3]])

    def test_400_calls_that_each_tell_one_more(self):
        told = ask_of(TILL, [BEGIN], *[[CHOOSE, 0], [TOLD]] * 199)
        log = [0, 0, 1, 0, 2, 0] * 67
        self.assertEqual(told[2::2], [[count] + log[:2 * count] for count in range(1, 200)])

    def test_400_calls_without_a_script(self):
        calls = TALKING * 60 + [[TIDY], [BEGIN], alike(TILL), [SHOW]] * 10
        self.assertEqual(ask(*calls), [[-1]] * 400)

    def test_a_log_of_1000_told_over_and_over(self):
        told = ask_of(TILL, [BEGIN], run(*[0] * 2000), *[[TOLD]] * 397)
        log = ([0, 0, 1, 0, 2, 0] * 334)[:2000]
        self.assertEqual(told[1], [1000])
        self.assertEqual(told[2:], [[1000] + log] * 397)

    def test_more_than_a_million_numbers(self):
        """A long one form and a log of 1000, in turn."""
        ranges = ", ".join(["num -1000000000 1000000000"] * 4)
        form = "script A\nparties P Q\nstart S\n" + "".join(
            f"{name} = P -> Q {{ " + " ; ".join(f"b{number}({ranges}) S" for number in range(8)) + " }\n"
            for name in "STUV")
        self.assertIn(len(form), range(3000, 4097))
        told = ask_of(form, [BEGIN], run(*[-1] * 1000), *[[SHOW], [TOLD]] * 198)
        self.assertEqual(told[2:], [row(form), [1000] + [0, 7] * 1000] * 198)
        self.assertGreater(sum(len(answer) for answer in told), 10 ** 6)
