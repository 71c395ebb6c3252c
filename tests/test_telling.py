"""The calls begin to standing: a script told aloud."""

import unittest

from tests.helper import (BACK, BEGIN, CHOOSE, FAIR, FAR, NEST, OPTIONS, SHOW, SIZES, STANDING, TALKING, TIDY, TILL,
                          TOLD, alike, ask, ask_of, load, run, talk)

# All that can be asked of a telling without changing it.
LOOK = [[OPTIONS], [TOLD], [STANDING]]
# Two options that come back to the one talk, and one that ends it.
LOOP = talk("a() S ; b() S ; c() E", rest="E = end")
FULL = run(*[0] * 1000)


def told_of(script, *calls):
    """What options, told and standing answer behind these calls."""
    return ask_of(script, *calls, *LOOK)[-3:]


class Worked(unittest.TestCase):

    def test_till(self):
        told = ask(load(TILL), [BEGIN], [CHOOSE, 0], [STANDING], run(5, -1), [TOLD], [BACK])
        self.assertEqual(told, [[1], [2], [0, 3, 0, 0, 1], [1, 1], [2], [3, 0, 0, 1, 0, 2, 0], [1]])

    def test_till_to_its_end(self):
        told = ask_of(TILL, [BEGIN], [OPTIONS], [CHOOSE, 1], [OPTIONS], [STANDING], [TOLD], run(0, 0), [CHOOSE, 0],
                      [BACK], [STANDING], [CHOOSE, 0], [OPTIONS], [CHOOSE, 0], [CHOOSE, 0], [OPTIONS], [TOLD])
        self.assertEqual(told, [[2], [2, 0, 0, 0, 1], [0, 3, 0, 1, 3], [0], [0], [1, 0, 1], [0], [-6], [2], [1, 0],
                                [0, 3, 0, 0, 1], [1, 1, 0], [1, 2, 1, 0, 2], [3, 0, 2, 0, 0], [2, 0, 0, 0, 1],
                                [3, 0, 0, 1, 0, 2, 0]])


class SideBySide(unittest.TestCase):
    """What stands by a both's first side comes before what stands by its second."""

    def test_boths_within_a_both(self):
        self.assertEqual(told_of(NEST, [BEGIN]),
                         [[7, 2, 0, 2, 1, 9, 0, 9, 1, 9, 2, 15, 0, 15, 1], [0], [3, 2, 9, 15]])

    def test_a_both_in_a_talks_place(self):
        told = ask_of(NEST, [BEGIN], [CHOOSE, 3], *LOOK)
        self.assertEqual(told[1:], [[0, 1, 9, 1, 10], [7, 2, 0, 2, 1, 11, 0, 11, 1, 12, 0, 15, 0, 15, 1], [1, 9, 1],
                                    [4, 2, 11, 12, 15]])

    def test_an_end_in_a_talks_place(self):
        told = ask_of(NEST, [BEGIN], [CHOOSE, 2], [STANDING], [CHOOSE, 1], [STANDING], [CHOOSE, 1], [STANDING],
                      [CHOOSE, 0], [CHOOSE, 0], [STANDING], [OPTIONS], [TOLD])
        self.assertEqual(told, [[7], [0, 1, 9, 0, 8], [2, 2, 15], [1, 0, 2, 1, 1], [1, 15], [1, 0, 15, 1, 16], [1, 16],
                                [0, 1, 16, 0, 15], [1, 0, 15, 0, 17], [0], [0], [5, 9, 0, 2, 1, 15, 1, 16, 0, 15, 0]])

    def test_a_talk_that_comes_back_to_itself_stays_in_its_place(self):
        for option in (0, 4):
            self.assertEqual(told_of(NEST, [BEGIN], [CHOOSE, option])[2], [3, 2, 9, 15])

    def test_sides_that_are_ends(self):
        for sides, stands in [("E F", []), ("E S", [3]), ("S E", [3]), ("S T", [3, 4]), ("T S", [4, 3]),
                              ("C S", [4, 3]), ("S C", [3, 4]), ("C D", [4]), ("D C", [4])]:
            text = (f"script A parties P Q start B B = both {sides} E = end F = end S = P -> Q {{ a() S }} "
                    "T = Q -> P { a() T } C = both T G D = both E F G = end")
            self.assertEqual(ask_of(text, [BEGIN], [STANDING]), [[len(stands)], [len(stands)] + stands], sides)

    def test_many_boths_one_within_the_other(self):
        """31 boths and 32 talks, once with the deep side first and once with it last."""
        for deep_first in (True, False):
            lines = []
            for number in range(31):
                sides = [f"b{number + 1}", f"t{number}"]
                lines.append(f"b{number}=both " + " ".join(sides if deep_first else sides[::-1]))
            lines += [f"t{number}=P->Q{{a()t{number}}}" for number in range(31)] + ["b31=P->Q{a()b31}"]
            numbers = [62] + list(range(61, 30, -1)) if deep_first else list(range(31, 63))
            told = ask_of("script A parties P Q start b0 " + "\n".join(lines), [BEGIN], [STANDING], [OPTIONS])
            self.assertEqual(told[:2], [[32], [32] + numbers])
            self.assertEqual(told[2], [32] + [part for number in numbers for part in (number, 0)])

    def test_fair(self):
        told = ask_of(FAIR, [BEGIN], [CHOOSE, 3], [CHOOSE, 0], [CHOOSE, 1], [STANDING], [CHOOSE, 0], [STANDING],
                      [BEGIN])
        self.assertEqual(told, [[5], [5, 4, 2, 1, 2], [0, 1, 1, 0, 1], [0, 1, 1, 1, 3], [1, 2], [5, 4, 2, 0, 4], [0],
                                [5]])


class Begin(unittest.TestCase):

    def test_a_start_in_the_midst(self):
        text = "script A parties P Q start T S = P -> Q { a() T } T = Q -> P { a() T ; b() S } U = end"
        self.assertEqual(ask_of(text, [BEGIN], [STANDING], [OPTIONS], [CHOOSE, 1], [STANDING]),
                         [[2], [1, 1], [2, 1, 0, 1, 1], [1, 0, 1, 1, 0], [1, 0]])

    def test_a_start_that_is_an_end(self):
        text = "script A parties P Q start E S = P -> Q { a() E } E = end"
        self.assertEqual(ask_of(text, [BEGIN], *LOOK, [CHOOSE, 0], [BACK], run(0), run()),
                         [[0], [0], [0], [0], [-6], [-8], [0], [0]])

    def test_anew_in_the_midst(self):
        fresh = told_of(NEST, [BEGIN])
        for calls in ([[CHOOSE, 3]], [run(*range(50))], [run(1, 2, 3), [BACK]], [[BEGIN], [BEGIN]]):
            told = ask_of(NEST, [BEGIN], *calls, [BEGIN], *LOOK, [BACK])
            self.assertEqual(told[-5:], [[7]] + fresh + [[-8]])

    def test_anew_behind_its_end_and_behind_a_full_log(self):
        self.assertEqual(ask_of(LOOP, [BEGIN], [CHOOSE, 2], [BEGIN], [CHOOSE, 2])[2:], [[3], [0, 1, 0, 2, 1]])
        self.assertEqual(ask_of(LOOP, [BEGIN], FULL, [BEGIN], [TOLD], FULL, [BEGIN], run(1, 1), [TOLD])[2:],
                         [[3], [0], [1000], [3], [2], [2, 0, 1, 0, 1]])


class Choose(unittest.TestCase):

    def test_what_is_answered(self):
        """The seats are told by their own numbers, extra ones too, and the branch by its number in its talk."""
        told = [ask_of(FAIR, [BEGIN], [CHOOSE, number])[1] for number in range(5)]
        self.assertEqual(told, [[0, 1, 1, 0, 1], [0, 1, 1, 1, 3], [5, 4, 2, 0, 4], [5, 4, 2, 1, 2], [5, 4, 2, 2, 2]])

    def test_no_such_option(self):
        for number in (-FAR, -8, -7, -1, 7, 8, 14, FAR):
            told = ask_of(NEST, [BEGIN], *LOOK, [CHOOSE, number], *LOOK)
            self.assertEqual(told[4], [-6])
            self.assertEqual(told[5:], told[1:4])
        for number in range(7):
            self.assertEqual(len(ask_of(NEST, [BEGIN], [CHOOSE, number])[1]), 5)

    def test_the_options_are_those_of_now(self):
        self.assertEqual(ask_of(TILL, [BEGIN], [CHOOSE, 0], [CHOOSE, 1], [CHOOSE, 0], [CHOOSE, 0], [CHOOSE, 1]),
                         [[2], [0, 3, 0, 0, 1], [-6], [1, 2, 1, 0, 2], [3, 0, 2, 0, 0], [0, 3, 0, 1, 3]])

    def test_a_log_of_1000(self):
        told = ask_of(LOOP, [BEGIN], run(*[0] * 999), [CHOOSE, 1], *LOOK, [CHOOSE, 0], [CHOOSE, 2], [CHOOSE, 3],
                      [CHOOSE, -1], [CHOOSE, FAR], [CHOOSE, -FAR], *LOOK)
        self.assertEqual(told[1:3], [[999], [0, 1, 0, 1, 0]])
        self.assertEqual(told[4], [1000] + [0, 0] * 999 + [0, 1])
        self.assertEqual(told[6:12], [[-7], [-7], [-6], [-6], [-6], [-6]])
        self.assertEqual(told[12:], told[3:6])

    def test_a_log_of_1000_without_options(self):
        """The last one told ends the conversation: then there is no such option, whatever the log."""
        told = ask_of(LOOP, [BEGIN], run(*[0] * 999), [CHOOSE, 2], [CHOOSE, 0], [STANDING], [BACK], [CHOOSE, 2])
        self.assertEqual(told[1:], [[999], [0, 1, 0, 2, 1], [-6], [0], [3], [0, 1, 0, 2, 1]])

    def test_room_again_behind_back(self):
        told = ask_of(LOOP, [BEGIN], FULL, [CHOOSE, 0], [BACK], [CHOOSE, 1], [CHOOSE, 1], [BACK], [BACK],
                      run(1, 1, 1), [TOLD])
        self.assertEqual(told[1:-1], [[1000], [-7], [3], [0, 1, 0, 1, 0], [-7], [3], [3], [2]])
        self.assertEqual(told[-1], [1000] + [0, 0] * 998 + [0, 1] * 2)


class Back(unittest.TestCase):

    def test_an_empty_log(self):
        for calls in ([[BEGIN]], [[BEGIN], [CHOOSE, 0], [BACK]], [[BEGIN], run()], [[BEGIN], [CHOOSE, 7]]):
            told = ask_of(NEST, *calls, *LOOK, [BACK], *LOOK, [BACK])
            self.assertEqual(told[-1], [-8])
            self.assertEqual(told[len(calls) + 3:-1], [[-8]] + told[len(calls):len(calls) + 3])

    def test_as_often_as_the_log_has_options(self):
        """Each look behind a back is the one that was there ahead of what is taken back."""
        numbers = [3, -1, 5, 12, 0, 7, -9, 2, 4, 6, 1]
        there = [[BEGIN]] + LOOK
        for number in numbers:
            there += [run(number)] + LOOK
        told = ask_of(NEST, *there, *([[BACK]] + LOOK) * (len(numbers) + 1))
        looks = [told[at + 1:at + 4] for at in range(0, len(told), 4)]
        forth = looks[:len(numbers) + 1]
        self.assertEqual(looks[len(numbers) + 1:], forth[-2::-1] + [forth[0]])
        backs = told[4 * (len(numbers) + 1)::4]
        self.assertEqual(backs, [[look[0][0]] for look in forth[-2::-1]] + [[-8]])
        self.assertEqual(told[4:4 * (len(numbers) + 1):4], [[1]] * len(numbers))

    def test_the_whole_of_a_log_of_1000(self):
        """In three lines, for a line has at most 400 calls."""
        first = ask_of(NEST, [BEGIN], run(*[0] * 1000), *[[BACK]] * 395, [TOLD])
        self.assertEqual(first[1:], [[1000]] + [[7]] * 395 + [[605] + [2, 0] * 605])
        last = ask_of(NEST, [BEGIN], run(*[0] * 390), *[[BACK]] * 391, *LOOK)
        self.assertEqual(last[2:], [[7]] * 390 + [[-8]] + told_of(NEST, [BEGIN]))

    def test_behind_run(self):
        told = ask_of(NEST, [BEGIN], run(3, 1, 4), [TOLD], [BACK], *LOOK, [BACK], *LOOK, [BACK], *LOOK)
        self.assertEqual(told[1:4], [[3], [3, 9, 1, 2, 1, 15, 1], [5]])
        self.assertEqual(told[4:7], told_of(NEST, [BEGIN], [CHOOSE, 3], [CHOOSE, 1]))
        self.assertEqual(told[7:11], [[7]] + told_of(NEST, [BEGIN], [CHOOSE, 3]))
        self.assertEqual(told[11:], [[7]] + told_of(NEST, [BEGIN]))

    def test_back_and_choose_again(self):
        for number in range(7):
            told = told_of(NEST, [BEGIN], [CHOOSE, 3], [BACK], [CHOOSE, number])
            self.assertEqual(told, told_of(NEST, [BEGIN], [CHOOSE, number]))

    def test_from_an_end(self):
        self.assertEqual(ask_of(LOOP, [BEGIN], [CHOOSE, 2], [BACK], *LOOK),
                         [[3], [0, 1, 0, 2, 1], [3], [3, 0, 0, 0, 1, 0, 2], [0], [1, 0]])


class Run(unittest.TestCase):

    def test_the_empty_list(self):
        for calls in ([[BEGIN]], [[BEGIN], [CHOOSE, 3]]):
            told = ask_of(NEST, *calls, run(), *LOOK)
            self.assertEqual(told[len(calls):], [[0]] + told_of(NEST, *calls))

    def test_the_remainder(self):
        """With 7 options at first."""
        for number, option in [(0, 0), (6, 6), (7, 0), (8, 1), (-1, 6), (-7, 0), (-8, 6), (-6, 1), (FAR, FAR % 7),
                               (-FAR, -FAR % 7), (1 - FAR, (1 - FAR) % 7)]:
            told = ask_of(NEST, [BEGIN], run(number), *LOOK)
            self.assertIn(option, range(7))
            self.assertEqual(told[1:], [[1]] + told_of(NEST, [BEGIN], [CHOOSE, option]), number)

    def test_far_from_0(self):
        """10^18 is 1 modulo 3 and -10^18 is 2."""
        self.assertEqual(ask_of(LOOP, [BEGIN], run(FAR, FAR, -FAR), [TOLD]), [[3], [3], [3, 0, 1, 0, 1, 0, 2]])
        self.assertEqual(ask_of(LOOP, [BEGIN], run(-1), [TOLD]), [[3], [1], [1, 0, 2]])

    def test_the_options_change_on_the_way(self):
        """2 options, then 1, then 1, then 2 again."""
        self.assertEqual(ask_of(TILL, [BEGIN], run(2, 1, 1, 3, 0), [TOLD], [STANDING]),
                         [[2], [4], [4, 0, 0, 1, 0, 2, 0, 0, 1], [0]])

    def test_a_list_that_outlasts_the_options(self):
        self.assertEqual(ask_of(LOOP, [BEGIN], run(0, 1, 2, 0, 0, 0), *LOOK, run(0), [TOLD]),
                         [[3], [3], [0], [3, 0, 0, 0, 1, 0, 2], [0], [0], [3, 0, 0, 0, 1, 0, 2]])

    def test_where_there_are_no_options(self):
        self.assertEqual(ask_of(LOOP, [BEGIN], [CHOOSE, 2], run(0, 1, -FAR, FAR), run(), [TOLD]),
                         [[3], [0, 1, 0, 2, 1], [0], [0], [1, 0, 2]])

    def test_a_list_that_outlasts_the_log(self):
        for count in (999, 1000, 1001, 2000):
            told = ask_of(LOOP, [BEGIN], run(*[4] * count), [TOLD], run(1), [TOLD])
            first = min(count, 1000)
            self.assertEqual(told[1:3], [[first], [first] + [0, 1] * first])
            self.assertEqual(told[3:], [[1000 - first], [1000] + [0, 1] * 1000])

    def test_a_log_told_in_several_runs(self):
        told = ask_of(LOOP, [BEGIN], run(*[0] * 400), run(*[1] * 599), [TOLD], run(*[3] * 2000), run(*[0] * 5), [TOLD],
                      [STANDING])
        self.assertEqual(told[1:3], [[400], [599]])
        self.assertEqual(told[3], [999] + [0, 0] * 400 + [0, 1] * 599)
        self.assertEqual(told[4:], [[1], [0], [1000] + [0, 0] * 400 + [0, 1] * 599 + [0, 0], [1, 0]])

    def test_like_choose(self):
        numbers = [3, 0, 2, 4, 5, 4, 1, 1, 1, 0]
        told = ask_of(NEST, [BEGIN], *[[CHOOSE, number] for number in numbers], *LOOK)
        self.assertNotIn([-6], told)
        self.assertEqual(ask_of(NEST, [BEGIN], run(*numbers), *LOOK)[1:], [[10]] + told[11:])


class Refusals(unittest.TestCase):

    ALL = [[SHOW], [SIZES], [3, 0], [4, 0], [5, 0, 0], [6, 0], [7, 0], [8, 0], [TIDY], alike(TILL), alike(""),
           alike("a" * 8192), [BEGIN]] + TALKING + [[CHOOSE, FAR], [CHOOSE, -FAR], run(), run(*[FAR] * 2000)]

    def test_no_script(self):
        for call in self.ALL:
            with self.subTest(call=call[:3]):
                self.assertEqual(ask(call, load("script"), call), [[-1], [0, 3, 6], [-1]])
        self.assertEqual(ask(*self.ALL), [[-1]] * len(self.ALL))

    def test_no_script_is_held_by_what_is_refused(self):
        self.assertEqual(ask(alike(TILL), [BEGIN], [OPTIONS], [SHOW], load(TILL), [OPTIONS])[4:], [[1], [-5]])

    def test_no_telling(self):
        calls = TALKING + [[CHOOSE, -1], [CHOOSE, FAR], [CHOOSE, -FAR], run(), run(*[1] * 2000)]
        for script in (TILL, NEST, LOOP, "script A parties P start E E = end"):
            self.assertEqual(ask_of(script, *calls, *calls), [[-5]] * len(calls) * 2)
            self.assertEqual(ask_of(script, alike(script), [TIDY], *calls)[2:], [[-5]] * len(calls))

    def test_a_load_that_takes_a_script_ends_the_telling(self):
        for script in (TILL, NEST):
            told = ask_of(TILL, [BEGIN], [CHOOSE, 0], load(script), *TALKING, [BEGIN], [TOLD])
            self.assertEqual(told[2:9], [[1]] + [[-5]] * 6)
            self.assertEqual(told[10], [0])

    def test_a_load_that_finds_a_fault_leaves_all_as_it_was(self):
        for text in ("", "script A-", "a" * 8192, NEST[:-5], NEST + "=", NEST + " " * 4096,
                     "script A parties P Q start S S = both T T T = end"):
            told = ask_of(NEST, [BEGIN], run(3, 6), [SHOW], *LOOK, load(text), [SHOW], *LOOK, [BACK], [BACK], [BACK])
            self.assertEqual(told[6][0], 0)
            self.assertEqual(told[7:11], told[2:6])
            self.assertEqual(told[11:], [[7], [7], [-8]])

    def test_each_refusal_leaves_all_as_it_was(self):
        refused = [([3, -1], -2), ([4, 20], -2), ([5, 3, 0], -2), ([6, 0], -9), ([7, FAR], -2), ([8, -FAR], -2),
                   ([8, 0], -4), (alike("script"), -3), ([CHOOSE, 7], -6), ([CHOOSE, -1], -6)]
        for call, answer in refused:
            with self.subTest(call=call[:3]):
                told = ask_of(NEST, [BEGIN], run(3), [SHOW], *LOOK, call, [SHOW], *LOOK, [BACK])
                self.assertEqual(told[6], [answer])
                self.assertEqual(told[7:11], told[2:6])
                self.assertEqual(told[11], [7])

    def test_what_else_is_asked_changes_nothing(self):
        """Every other call amid a telling: only load, tidy and begin touch it."""
        others = [[SHOW], [SIZES], [3, 0], [4, 2], [5, 2, 0], [6, 0], [7, 3], [8, 17], alike(NEST), alike(TILL),
                  [OPTIONS], [TOLD], [STANDING], run()]
        told = ask_of(NEST, [BEGIN], run(3, 1), *LOOK, *others, *LOOK)
        self.assertEqual(told[-3:], told[2:5])
