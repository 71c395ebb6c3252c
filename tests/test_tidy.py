"""The calls tidy and alike, and promise 2."""

import random
import unittest

from tests.helper import (BACK, BEGIN, BRANCH, CHOOSE, FAIR, NEST, OPTIONS, REACH, ROUTE, SEAT, SHOW, SIZES,
                          STANDING, STATE, TALKING, TIDY, TILL, TOLD, alike, ask, ask_of, fault, find, load, row, run,
                          shown, some_scripts, talk, woven_scripts)

FAIR_TIDIED = FAIR[:FAIR.index("Lost =")]

NEST_TIDIED = """script Nest
parties Ann Bob
start Root
Root = both Deep Wide
Deep = both Quiet Low
Wide = both High Far
Quiet = end
Low = Bob -> Ann { low1() Low ; low2() Stop1 }
High = Ann -> Bob { high1() Stop2 ; high2() Split ; high3() High }
Far = Bob -> Ann { far1() Stop5 ; far2() Far2 }
Stop1 = end
Stop2 = end
Split = both Pair1 Pair2
Stop5 = end
Far2 = Ann -> Bob { far3() Far }
Pair1 = Ann -> Bob { p1() Pair1 ; p2() Stop3 }
Pair2 = Bob -> Ann { q1() Stop4 }
Stop3 = end
Stop4 = end
"""


def tidied(script):
    """The one form of the script once it is tidied."""
    told = ask_of(script, [TIDY], [SHOW])[1]
    return bytes(told[1:]).decode("latin-1")


def sorted_out(script):
    """The same, told by the lines of its one form: a line a state, in the order in which the states are met."""
    count, start = ask_of(script, [SIZES])[0][2:4]
    lines = shown(script).splitlines(keepends=True)
    states = lines[-count:]
    return "".join(lines[:-count] + [states[number] for number in ask_of(script, [REACH, start])[0][1:]])


class Tidy(unittest.TestCase):

    def test_how_many_are_gone(self):
        self.assertEqual(ask_of(TILL, [TIDY]), [[0]])
        self.assertEqual(ask_of(FAIR, [TIDY]), [[2]])
        self.assertEqual(ask_of(NEST, [TIDY]), [[4]])
        self.assertEqual(ask_of(talk("a() S", rest="T = end U = end V = P -> Q { a() S }"), [TIDY]), [[3]])

    def test_show(self):
        self.assertEqual(tidied(FAIR), FAIR_TIDIED)
        self.assertEqual(tidied(NEST), NEST_TIDIED)

    def test_the_states_are_met_from_the_start(self):
        """No state is gone here, but two change places: Done is met ahead of Pay."""
        self.assertEqual(ask_of(TILL, [TIDY], [REACH, 0], find("Pay"), find("Done")), [[0], [4, 0, 1, 2, 3], [3], [2]])
        lines = TILL.splitlines(keepends=True)
        self.assertEqual(tidied(TILL), "".join(lines[:6] + [lines[7], lines[6]]))

    def test_sizes(self):
        self.assertEqual(ask_of(NEST, [SIZES], [TIDY], [SIZES]), [[2, 0, 20, 3, 13], [4], [2, 0, 16, 0, 11]])
        self.assertEqual(ask_of(FAIR, [TIDY], [SIZES]), [[2], [3, 3, 5, 0, 5]])

    def test_seats_stay(self):
        calls = [[SEAT, number] for number in range(-1, 8)]
        self.assertEqual(ask_of(FAIR, [TIDY], *calls)[1:], ask_of(FAIR, *calls))

    def test_states(self):
        told = ask_of(NEST, [TIDY], *[[STATE, number] for number in (0, 1, 2, 3, 4, 5, 9, 15, 16, -1)])
        self.assertEqual(told[1:], [[2, 1, 2] + row("Root"), [2, 3, 4] + row("Deep"), [2, 5, 6] + row("Wide"),
                                    [0] + row("Quiet"), [1, 1, 0, 2] + row("Low"), [1, 0, 1, 3] + row("High"),
                                    [2, 12, 13] + row("Split"), [0] + row("Stop4"), [-2], [-2]])

    def test_branches(self):
        told = ask_of(NEST, [TIDY], [BRANCH, 4, 0], [BRANCH, 4, 1], [BRANCH, 5, 1], [BRANCH, 5, 3], [BRANCH, 0, 0])
        self.assertEqual(told[1:], [[4, 0, 0] + row("low1"), [7, 0, 0] + row("low2"), [9, 0, 0] + row("high2"), [-2],
                                    [-2]])
        calls = [[BRANCH, 1, 0], [BRANCH, 1, 1], [BRANCH, 2, 0], [BRANCH, 2, 1], [BRANCH, 2, 2], [BRANCH, 5, 0]]
        self.assertEqual(ask_of(FAIR, [TIDY], *calls)[1:], ask_of(FAIR, *calls)[:-1] + [[-2]])

    def test_find(self):
        told = ask_of(NEST, [TIDY], find("Root"), find("Low"), find("Stop4"), find("Nowhere"), find("Last"))
        self.assertEqual(told[1:], [[0], [4], [15], [-9], [-9]])

    def test_reach(self):
        told = ask_of(NEST, [TIDY], [REACH, 0], [REACH, 5], [REACH, 6], [REACH, 16])
        self.assertEqual(told[1:], [[16] + list(range(16)), [7, 5, 8, 9, 12, 13, 14, 15], [3, 6, 10, 11], [-2]])

    def test_route(self):
        told = ask_of(NEST, [ROUTE, 0], [TIDY], [ROUTE, 0], [ROUTE, 13], [ROUTE, 16])
        self.assertEqual(told, [[-4], [4], [0], [4, 0, 1, 2, 0, 5, 1, 9, 1], [-2]])

    def test_the_telling_is_ended(self):
        for script in (TILL, NEST):
            for calls in ([[BEGIN]], [[BEGIN], [CHOOSE, 0]], [[BEGIN], run(1, 2, 3), [BACK]]):
                told = ask_of(script, *calls, [TIDY], *TALKING)
                self.assertGreaterEqual(told[len(calls)][0], 0)
                self.assertEqual(told[len(calls) + 1:], [[-5]] * len(TALKING))

    def test_a_telling_of_what_is_left(self):
        told = ask_of(NEST, [BEGIN], run(0, 1), [TIDY], [BEGIN], [STANDING], [CHOOSE, 3], [STANDING], [TOLD])
        self.assertEqual(told, [[7], [2], [4], [7], [3, 4, 5, 6], [0, 1, 5, 1, 9], [4, 4, 12, 13, 6], [1, 5, 1]])

    def test_twice(self):
        for script in (TILL, FAIR, NEST):
            told = ask_of(script, [TIDY], [SHOW], [TIDY], [SHOW], [TIDY], [SHOW])
            self.assertEqual([told[2], told[4]], [[0], [0]])
            self.assertEqual([told[3], told[5]], [told[1], told[1]])

    def test_a_start_that_is_an_end(self):
        text = "script A parties P Q start E S = P -> Q { a() S ; b() E } B = both S E2 E = end E2 = end"
        told = ask_of(text, [TIDY], [SHOW], [SIZES], find("E"), [ROUTE, 0], [BEGIN], [STANDING])
        self.assertEqual(told, [[3], row("script A\nparties P Q\nstart E\nE = end\n"), [2, 0, 1, 0, 0], [0], [0], [0],
                                [0]])

    def test_a_start_that_is_a_both(self):
        text = "script A parties P Q start B E = end F = end B = both F E G = both E F"
        told = ask_of(text, [TIDY], [SHOW], [STATE, 0], [REACH, 0], [TIDY])
        self.assertEqual(told, [[1], row("script A\nparties P Q\nstart B\nB = both F E\nF = end\nE = end\n"),
                                [2, 1, 2] + row("B"), [3, 0, 1, 2], [0]])

    def test_what_is_loaded_later_is_not_tidied(self):
        told = ask(load(NEST), [TIDY], load(NEST), [SIZES], [SHOW])
        self.assertEqual(told[3:], [[2, 0, 20, 3, 13], row(NEST)])

    def test_a_fault_leaves_it_tidied(self):
        self.assertEqual(ask_of(NEST, [TIDY], load("script"), alike("no"), [SHOW])[3], row(NEST_TIDIED))


# A script, and words of it with others in their place, by which it becomes an unlike one.
BASE = """script A parties P Q R seat X of P seat Y of Q start B
B = both S T
S = P -> Q { a(flag, num 1 2)[X, Y] S ; b(text 3)[Y] E ; c() U }
T = X -> R { a() F ; b() T }
U = Y -> Q { d() S ; e() E }
E = end F = end G = both E F H = Q -> P { z() H }"""

UNLIKE = {
    "one party more": ("P Q R", "P Q R Z"),
    "a party's name": ("R", "Z"),
    "the parties' order": ("P Q R", "P R Q"),
    "one extra seat more": ("seat Y of Q", "seat Y of Q seat Z of Q"),
    "a first holder": ("seat X of P", "seat X of Q"),
    "another first holder": ("seat Y of Q", "seat Y of R"),
    "the extra seats' order": ("seat X of P seat Y of Q", "seat Y of Q seat X of P"),
    "the seat that sends": ("S = P ->", "S = X ->"),
    "the seat that receives": ("X -> R", "X -> Q"),
    "two seats that change places": ("U = Y -> Q", "U = Q -> Y"),
    "a label": ("d() S", "D() S"),
    "a range's kind": ("(flag,", "(text 0,"),
    "a range's first number": ("num 1 2", "num 0 2"),
    "a range's second number": ("num 1 2", "num 1 3"),
    "a text's length": ("text 3", "text 4"),
    "ranges in another order": ("flag, num 1 2", "num 1 2, flag"),
    "one range more": ("text 3", "text 3, flag"),
    "one range less": ("flag, num 1 2", "flag"),
    "no range": ("text 3", ""),
    "a handed seat": ("[Y]", "[X]"),
    "handed seats in another order": ("[X, Y]", "[Y, X]"),
    "one handed seat less": ("[X, Y]", "[X]"),
    "no handed seat": ("[Y] E", " E"),
    "a handed seat more": ("c() U", "c()[X] U"),
    "branches in another order": ("a() F ; b() T", "b() T ; a() F"),
    "one branch more": ("b() T", "b() T ; c() T"),
    "one branch less": ("a() F ; b() T", "b() T"),
    "sides in another order": ("both S T", "both T S"),
    "the state behind": ("d() S", "d() U"),
    "another end behind": ("e() E", "e() E2"),
    "a both in an end's place": ("E = end F", "E = both E3 E4 E3 = end E4 = end F"),
    "a talk in an end's place": ("E = end F", "E = P -> Q { a() E } F"),
    "an end in a both's place": ("B = both S T", "B = end"),
    "the start": ("start B", "start S"),
    "a state between": ("c() U", "c() V"),
}
MORE = "\nE2 = end V = Y -> Q { d() S ; e() E ; f() U }"

LIKE = {
    "other blanks": (" ", "\t \n"),
    "another title": ("script A", "script Quite2Another"),
    "another state's name": ("U ", "Z "),
    "a state named like a party": ("U ", "P "),
    "states in another order": ("E = end F = end", "F = end E = end"),
    "without what cannot be reached": (" G = both E F H = Q -> P { z() H }", ""),
    "other things that cannot be reached": ("z() H", "z(flag)[X] H ; y() B"),
}


def changed(script, pair):
    assert pair[0] in script, pair
    return script.replace(pair[0], pair[1])


class Alike(unittest.TestCase):

    def test_itself(self):
        for script in (TILL, FAIR, NEST, BASE):
            self.assertEqual(ask_of(script, alike(script), alike(shown(script)), alike(tidied(script))), [[1]] * 3)
            self.assertEqual(ask_of(script, [TIDY], alike(script), alike(tidied(script)))[1:], [[1]] * 2)

    def test_unlike(self):
        base = BASE + MORE
        self.assertEqual(ask_of(BASE, alike(base)), [[1]])
        for name, pair in UNLIKE.items():
            with self.subTest(unlike=name):
                other = changed(base, pair)
                self.assertEqual(ask_of(base, alike(other)), [[0]])
                self.assertEqual(ask_of(other, alike(base)), [[0]])
                self.assertEqual(ask_of(other, alike(other)), [[1]])
                self.assertEqual(ask_of(base, [TIDY], alike(tidied(other))), [ask_of(base, [TIDY])[0], [0]])

    def test_alike(self):
        for name, pair in LIKE.items():
            with self.subTest(alike=name):
                other = changed(BASE, pair)
                self.assertEqual(ask_of(BASE, alike(other), [TIDY], alike(other))[::2], [[1], [1]])
                self.assertEqual(ask_of(other, alike(BASE)), [[1]])

    def test_an_extra_seats_name(self):
        """The seat is named nowhere else, so that its name alone is unlike."""
        texts = [talk("a() S", seats=f"seat {name} of P") for name in ("X", "Y", "x")]
        self.assertEqual(ask_of(texts[0], *[alike(text) for text in texts]), [[1], [0], [0]])

    def test_a_party_or_an_extra_seat(self):
        texts = ["script A parties P Q R start E E = end", "script A parties P Q seat R of P start E E = end",
                 "script A parties P Q seat R of Q start E E = end", "script A parties P Q start E E = end"]
        for number, text in enumerate(texts):
            told = ask_of(text, *[alike(other) for other in texts])
            self.assertEqual(told, [[1 if number == other else 0] for other in range(4)])

    def test_the_branches_bring_unlike_numbers(self):
        """Both talks lead on to two ends, once to one of them twice."""
        one = talk("a() T ; b() T", rest="T = end U = end")
        other = talk("a() T ; b() U", rest="T = end U = end")
        self.assertEqual(ask_of(one, alike(one), alike(other)), [[1], [0]])
        self.assertEqual(ask_of(other, alike(one), alike(other)), [[0], [1]])

    def test_sides_that_are_met_ahead_of_their_both(self):
        """The states are met in the same order and are the same, but for the sides."""
        front = "a() B ; b() T ; c() U ; d() V"
        rest = "T = P -> Q { a() T } U = P -> Q { a() U } V = end"
        texts = [talk(front, rest=f"B = both {sides} {rest}") for sides in ("T U", "U T", "T V", "V T", "U V", "V U")]
        for number, text in enumerate(texts):
            told = ask_of(text, *[alike(other) for other in texts])
            self.assertEqual(told, [[1 if number == other else 0] for other in range(6)])

    def test_states_are_counted(self):
        """Two ways that tell the same, by one state or by two of them, are unlike."""
        one = talk("a() S")
        other = talk("a() T", rest="T = P -> Q { a() T }")
        self.assertEqual(ask_of(one, alike(other)), [[0]])
        self.assertEqual(ask_of(other, alike(one)), [[0]])

    def test_no_script(self):
        for text in ["", "script", TILL[:-4], TILL + "=", TILL.replace("Done =", "Ask ="), TILL + "#" * 4096,
                     "a" * 8192, TILL + " " * (4097 - len(TILL)), [0] * 8192, [255], talk("a(num 2 1) S"),
                     talk("a() T"), "script A parties P Q start S S = both T T T = end"]:
            self.assertEqual(ask_of(TILL, alike(text)), [[-3]])

    def test_as_long_as_may_be(self):
        self.assertEqual(ask_of(TILL, alike(TILL + " " * (4096 - len(TILL)))), [[1]])

    def test_all_is_as_it_was(self):
        """Whatever alike answers, the script and the telling are as they were."""
        asked = [[SHOW], [SIZES], [OPTIONS], [TOLD], [STANDING]]
        for text in (NEST, NEST_TIDIED, TILL, "", "no script", "a" * 8192):
            told = ask_of(NEST, [BEGIN], run(1, 3, 5), *asked, alike(text), *asked, [BACK])
            self.assertEqual(told[8:13], told[2:7])
            self.assertGreater(told[13][0], 0)

    def test_no_telling_comes_by_it(self):
        self.assertEqual(ask_of(TILL, alike(TILL), [OPTIONS]), [[1], [-5]])


def other_names(dice, script):
    """The same script with its states in another order and under other names, and with another title."""
    lines = shown(script).splitlines()
    count = ask_of(script, [SIZES])[0][2]
    names = [line.split()[0] for line in lines[-count:]]
    others = dict(zip(names, dice.sample([f"n{number}" for number in range(99)], count)))
    head = [line for line in lines[:-count] if not line.startswith(("start", "script"))]
    states = [renamed(line, others) for line in lines[-count:]]
    start = others[lines[-count - 1].split()[1]]
    return "\n".join(["script Other"] + head + ["start " + start] + dice.sample(states, count))


def renamed(line, others):
    """A state's line with other names of states: the first word, a both's sides, the word ahead of a ; or a }."""
    words = line.split()
    words[0] = others[words[0]]
    for at in range(2, len(words)):
        if words[2] == "both" and at > 2 or words[at + 1:at + 2] in (["}"], [";"]):
            words[at] = others[words[at]]
    return " ".join(words)


def picture(script):
    """What is told of a script by the other calls, its states under the numbers in which they are met."""
    sizes = ask_of(script, [SIZES])[0]
    seats = ask_of(script, *[[SEAT, number] for number in range(sizes[0] + sizes[1])])
    met = ask_of(script, [REACH, sizes[3]])[0][1:]
    states = ask_of(script, *[[STATE, number] for number in met])
    places = [(number, branch) for number, told in zip(met, states) for branch in range(told[3] if told[0] == 1 else 0)]
    branches = ask_of(script, *[[BRANCH, number, branch] for number, branch in places])
    return [sizes[:2], seats, [nameless(told, met) for told in states],
            [[met.index(told[0])] + told[1:] for told in branches]]


def nameless(told, met):
    """What the call state tells of a state, without its name."""
    if told[0] == 2:
        return [2, met.index(told[1]), met.index(told[2])]
    return told[:4] if told[0] == 1 else [0]


def little_changed(dice, script):
    """The script with one word of a state in the place of another of its sort, perhaps no script any more."""
    lines = dice.choice([shown(script), tidied(script)]).splitlines()
    states = [number for number, line in enumerate(lines) if " = " in line]
    number = dice.choice([number for number in states if "{" in lines[number]] or states)
    words = lines[number].split()
    at = dice.choice([place for place in range(2, len(words)) if words[place][0].isalpha()])
    spare = [word for state in states for word in lines[state].split() if word[0] == words[at][0]]
    words[at] = dice.choice(spare)
    return "\n".join(lines[:number] + [" ".join(words)] + lines[number + 1:])


class Promise2(unittest.TestCase):

    def scripts(self, seed):
        return some_scripts(seed, 120) + woven_scripts(seed, 80) + [TILL, FAIR, NEST, BASE]

    def test_alike_itself_and_what_it_is_tidied(self):
        for script in self.scripts(21):
            tidy = tidied(script)
            self.assertEqual(ask_of(script, alike(script), alike(shown(script)), alike(tidy)), [[1]] * 3)
            self.assertEqual(ask_of(script, [TIDY], alike(script), alike(tidy))[1:], [[1]] * 2)
            self.assertEqual(ask_of(tidy, alike(script)), [[1]])

    def test_tidying_twice(self):
        gone = []
        for script in self.scripts(22):
            told = ask_of(script, [TIDY], [SHOW], [SIZES], [TIDY], [SHOW], [SIZES])
            self.assertEqual(told[3:], [[0]] + told[1:3])
            self.assertEqual(ask_of(tidied(script), [TIDY], [SHOW]), [[0], told[1]])
            gone += told[0]
        self.assertIn(0, gone)
        self.assertGreater(max(gone), 3)

    def test_what_is_left(self):
        for script in self.scripts(23):
            self.assertEqual(tidied(script), sorted_out(script))
            before, gone, after = ask_of(script, [SIZES], [TIDY], [SIZES])
            self.assertEqual(gone[0], before[2] - ask_of(script, [REACH, before[3]])[0][0])
            self.assertEqual([after[2], after[3]], [before[2] - gone[0], 0])

    def test_the_title_and_the_states_names_do_not_matter(self):
        dice = random.Random(24)
        for script in self.scripts(24):
            other = other_names(dice, script)
            self.assertEqual(ask_of(script, alike(other)), [[1]])
            self.assertEqual(ask_of(other, alike(script)), [[1]])

    def test_alike_just_if_the_pictures_are_the_same(self):
        dice = random.Random(25)
        answers = []
        for script in some_scripts(25, 100) + woven_scripts(25, 40):
            here = picture(script)
            for turn in range(6):
                other = little_changed(dice, script)
                told = ask_of(script, alike(other))[0]
                if fault(other) is None:
                    self.assertEqual(told, [1 if picture(other) == here else 0])
                else:
                    self.assertEqual(told, [-3])
                answers += told
        for answer in (-3, 0, 1):
            self.assertGreater(answers.count(answer), 50, answer)
