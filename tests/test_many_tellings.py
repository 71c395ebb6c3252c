"""The promises 4, 5 and 6 over many scripts, and tellings beside a second teller that works all out anew."""

import random
import unittest

from tests.helper import (BACK, BEGIN, BRANCH, CHOOSE, FAIR, NEST, OPTIONS, REACH, SIZES, STANDING, STATE, TIDY, TILL,
                          TOLD, alike, ask_of, load, run, some_scripts, woven_scripts)

LOOK = [[OPTIONS], [TOLD], [STANDING]]


def pairs(told):
    """The pairs of an answer that has their count ahead of them."""
    assert len(told) == 1 + 2 * told[0]
    return list(zip(told[1::2], told[2::2]))


def flat(options):
    return [len(options)] + [number for option in options for number in option]


def many(seed):
    return some_scripts(seed, 100) + woven_scripts(seed, 100) + [TILL, FAIR, NEST]


class Teller:
    """Tells a script by the document's words, from what state and branch answer; each look begins at the start."""

    def __init__(self, script):
        count, self.start = ask_of(script, [SIZES])[0][2:4]
        self.states = ask_of(script, *[[STATE, number] for number in range(count)])
        places = [(number, branch) for number in range(count) for branch in range(self.branch_count(number))]
        told = ask_of(script, *[[BRANCH, number, branch] for number, branch in places])
        self.behind = {place: answer[0] for place, answer in zip(places, told)}
        self.log = []

    def branch_count(self, number):
        return self.states[number][3] if self.states[number][0] == 1 else 0

    def come_to(self, number):
        kind = self.states[number][0]
        if kind == 0:
            return []
        if kind == 1:
            return [number]
        return self.come_to(self.states[number][1]) + self.come_to(self.states[number][2])

    def standing(self):
        talks = self.come_to(self.start)
        for option in self.log:
            at = talks.index(option[0])
            talks[at:at + 1] = self.come_to(self.behind[option])
        return talks

    def options(self):
        return [(number, branch) for number in self.standing() for branch in range(self.branch_count(number))]

    def choose(self, number):
        options = self.options()
        if number not in range(len(options)):
            return [-6]
        self.log.append(options[number])
        return self.states[options[number][0]][1:3] + list(options[number]) + [self.behind[options[number]]]

    def back(self):
        if not self.log:
            return [-8]
        self.log.pop()
        return [len(self.options())]

    def run(self, numbers):
        count = 0
        for number in numbers:
            options = self.options()
            if not options:
                break
            self.choose(number % len(options))
            count += 1
        return [count]

    def look(self):
        standing = self.standing()
        return [flat(self.options()), flat(self.log), [len(standing)] + standing]


def some_call(dice, teller):
    """A call amid a telling, and what the second teller answers to it."""
    kind = dice.choice(["choose", "choose", "choose", "back", "run", "begin", "other"])
    if kind == "choose":
        number = dice.randint(-1, len(teller.options()))
        return [CHOOSE, number], teller.choose(number)
    if kind == "run":
        numbers = [dice.randint(-9, 9) for turn in range(dice.randint(0, 5))]
        return run(*numbers), teller.run(numbers)
    if kind == "begin" and dice.random() < 0.3:
        teller.log = []
        return [BEGIN], [len(teller.options())]
    if kind == "other":
        return dice.choice([(load("script A-"), [0, 2, 8]), (alike(""), [-3]), ([7, -1], [-2])])
    return [BACK], teller.back()


class SecondTeller(unittest.TestCase):

    def test_any_calls(self):
        dice = random.Random(40)
        for script in many(40):
            teller = Teller(script)
            calls = [[BEGIN]] + LOOK
            wanted = [[len(teller.options())]] + teller.look()
            for turn in range(40):
                call, answer = some_call(dice, teller)
                calls += [call] + LOOK
                wanted += [answer] + teller.look()
            self.assertEqual(ask_of(script, *calls), wanted, script)

    def test_long_runs(self):
        dice = random.Random(41)
        for script in many(41)[::4] + [NEST]:
            numbers = [dice.randint(-10 ** 18, 10 ** 18) for turn in range(60)]
            teller = Teller(script)
            told = ask_of(script, [BEGIN], run(*numbers), *LOOK)
            self.assertEqual(told[1:], [teller.run(numbers)] + teller.look())

    def test_of_what_is_tidied(self):
        """A tidied script tells the same, its states under other numbers."""
        for script in many(42):
            start = ask_of(script, [SIZES])[0][3]
            met = ask_of(script, [REACH, start])[0][1:]
            numbers = list(range(3, 40, 3))
            before = ask_of(script, [BEGIN], run(*numbers), *LOOK)
            after = ask_of(script, [TIDY], [BEGIN], run(*numbers), *LOOK)[1:]
            self.assertEqual(after[:2], before[:2])
            for told, other in zip(after[2:4], before[2:4]):
                self.assertEqual([(met[number], branch) for number, branch in pairs(told)], pairs(other))
            self.assertEqual([met[number] for number in after[4][1:]], before[4][1:])

    def test_the_scripts_stand_at_many_talks(self):
        counts = [ask_of(script, [BEGIN], [STANDING])[1][0] for script in many(40)]
        for count in (0, 1, 2, 3, 4):
            self.assertGreater(counts.count(count), 3, count)


class Promise4(unittest.TestCase):

    def test_at_talks_alone_that_can_be_reached_and_at_none_twice(self):
        dice = random.Random(4)
        for script in many(4):
            count, start = ask_of(script, [SIZES])[0][2:4]
            kinds = [told[0] for told in ask_of(script, *[[STATE, number] for number in range(count)])]
            reached = ask_of(script, [REACH, start])[0][1:]
            calls = [[BEGIN], [STANDING]]
            for turn in range(30):
                calls += [run(dice.randint(0, 99)), [STANDING]]
            for told in ask_of(script, *calls)[1::2]:
                talks = told[1:]
                self.assertEqual(told[0], len(talks))
                self.assertEqual(len(set(talks)), len(talks))
                for talk in talks:
                    self.assertIn(talk, reached)
                    self.assertEqual(kinds[talk], 1)


class Promise5(unittest.TestCase):

    def test_told_and_taken_back(self):
        """Each option, behind each of some ways into the script."""
        for script in many(5):
            for way in ([], [1], [0, 3, 2], list(range(12))):
                front = [[BEGIN], run(*way)] + LOOK
                count = ask_of(script, *front)[2][0]
                calls = [call for number in range(count) for call in [[CHOOSE, number], [BACK]] + LOOK]
                told = ask_of(script, *front, *calls)
                for at in range(5, len(told), 5):
                    self.assertEqual(told[at + 1], [count])
                    self.assertEqual(told[at + 2:at + 5], told[2:5])

    def test_a_whole_way_back(self):
        for script in many(51):
            told = ask_of(script, [BEGIN], *LOOK, run(*range(7, 60, 2)))
            back = ask_of(script, [BEGIN], run(*range(7, 60, 2)), *[[BACK]] * told[4][0], *LOOK, [BACK])
            self.assertEqual(back[-4:-1], told[1:4])
            self.assertEqual(back[-1], [-8])

    def test_the_log_told_anew(self):
        dice = random.Random(52)
        for script in many(52):
            calls = []
            for turn in range(12):
                calls += [run(dice.randint(0, 99), dice.randint(0, 99))] + [[BACK]] * dice.choice([0, 0, 1, 2])
            told = ask_of(script, [BEGIN], *calls, *LOOK)
            anew = [[BEGIN]]
            for option in pairs(told[-2]):
                options = pairs(ask_of(script, *anew, [OPTIONS])[-1])
                anew.append([CHOOSE, options.index(option)])
            self.assertEqual(ask_of(script, *anew, *LOOK)[-3:], told[-3:])


class Promise6(unittest.TestCase):

    def chosen(self, script, front, option):
        """The call that tells this option behind these calls."""
        return [CHOOSE, pairs(ask_of(script, *front, [OPTIONS])[-1]).index(option)]

    def ends(self, script, front, options):
        """What options and standing answer when these options are told in this order."""
        calls = list(front)
        for option in options:
            calls.append(self.chosen(script, calls, option))
        told = ask_of(script, *calls, [OPTIONS], [STANDING])
        self.assertNotIn([-6], told)
        return told[-2:]

    def test_in_either_order(self):
        dice = random.Random(6)
        met = 0
        for script in woven_scripts(6, 120) + some_scripts(6, 60) + [FAIR, NEST]:
            front = [[BEGIN], run(*[dice.randint(0, 99) for turn in range(dice.randint(0, 4))])]
            options = pairs(ask_of(script, *front, [OPTIONS])[-1])
            unlike = [(one, other) for one in options for other in options if one[0] < other[0]]
            for one, other in dice.sample(unlike, min(len(unlike), 6)):
                self.assertEqual(self.ends(script, front, [one, other]), self.ends(script, front, [other, one]))
                met += 1
        self.assertGreater(met, 150)

    def test_all_orders_of_nest(self):
        options = pairs(ask_of(NEST, [BEGIN], [OPTIONS])[-1])
        for one in options:
            for other in options:
                if one[0] != other[0]:
                    self.assertEqual(self.ends(NEST, [[BEGIN]], [one, other]), self.ends(NEST, [[BEGIN]], [other, one]))
