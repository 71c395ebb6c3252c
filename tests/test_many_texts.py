"""Promise 7 over many texts: each has a fault or is a script, and the grammar's faults are found anew by a table."""

import random
import unittest

from tests.helper import FAIR, SHOW, TILL, ask, fault, load, octets, some_text

# The grammar without its limits, as steps from one spot to another. A word is a reserved word or a sign.
STEPS = {
    "script": {"script": "title"},
    "title": {"NAME": "parties"},
    "parties": {"parties": "party"},
    "party": {"NAME": "parties on"},
    "parties on": {"NAME": "parties on", "seat": "seat", "start": "start"},
    "seat": {"NAME": "of"},
    "of": {"of": "holder"},
    "holder": {"NAME": "seats on"},
    "seats on": {"seat": "seat", "start": "start"},
    "start": {"NAME": "state"},
    "state": {"NAME": "="},
    "=": {"=": "what"},
    "what": {"end": "done", "both": "first", "NAME": "->"},
    "done": {"NAME": "=", "ENDING": "done"},
    "first": {"NAME": "second"},
    "second": {"NAME": "done"},
    "->": {"->": "receiver"},
    "receiver": {"NAME": "{"},
    "{": {"{": "label"},
    "label": {"NAME": "("},
    "(": {"(": "ranges"},
    "ranges": {"flag": "ranges on", "num": "low", "text": "most", ")": "["},
    "low": {"NUMBER": "high"},
    "high": {"NUMBER": "ranges on"},
    "most": {"NUMBER": "ranges on"},
    "ranges on": {",": "range", ")": "["},
    "range": {"flag": "ranges on", "num": "low", "text": "most"},
    "[": {"[": "handed", "NAME": "branches on"},
    "handed": {"NAME": "handed on"},
    "handed on": {",": "handed", "]": "behind"},
    "behind": {"NAME": "branches on"},
    "branches on": {";": "label", "}": "done"},
}
# At these spots one more thing of a list begins, by a name or by one of these words.
LIMITS = {"party": 8, "parties on": 8, "seats on": 8, "state": 64, "done": 64, "label": 8, "ranges": 4, "range": 4,
          "handed": 2}
LISTS = {"party": "party", "parties on": "party", "seats on": "seat", "state": "state", "done": "state",
         "label": "label", "ranges": "range", "range": "range", "handed": "handed"}
BEGINS = {"NAME", "seat", "flag", "num", "text"}
# What is counted anew, and behind which word.
ANEW = {"{": "label", "(": "range", "[": "handed"}


def look(word):
    if word.lstrip("-").isdigit():
        return "NUMBER"
    return "NAME" if word[0].isupper() else word


def first_fault(words):
    """The code of the first fault against the grammar and the number of its word, (0, 0) if there is none."""
    spot, low, counts = "script", 0, {}
    for number, word in enumerate(words + ["ENDING"]):
        kind = "ENDING" if number == len(words) else look(word)
        if kind not in STEPS[spot]:
            return 3, number
        where = "seats on" if kind == "seat" else spot
        if where in LISTS and kind in BEGINS:
            counts[LISTS[where]] = counts.get(LISTS[where], 0) + 1
            if counts[LISTS[where]] > LIMITS[where]:
                return 4, number
        if spot == "high" and int(word) < low or spot == "most" and not 0 <= int(word) <= 255:
            return 7, number
        low = int(word) if spot == "low" else low
        if kind in ANEW:
            counts[ANEW[kind]] = 0
        spot = STEPS[spot][kind]
    return 0, 0


SIGNS = "-> <- = { } ( ) [ ] , ; : ! ? |".split()
WORDS = "script parties seat of start end both flag num text part stop send recv program for def if pick any".split()
SPARE = SIGNS + WORDS + ["P", "Q", "X", "S", "E", "0", "1", "-1", "255", "256", "1000000000"]
WHOLE = ("script A parties P Q seat X of P seat Y of Q start S S = P -> Q { A ( flag , num 1 2 , text 3 ) "
         "[ X , Y ] S ; B ( ) E } B = both E F E = end F = end").split()


# What may be said many times over, and the words behind which it may.
TIMES = [("parties", "P"), ("X of P", "seat X of P"), ("flag", ", flag"), ("[ X", ", X"), ("] S", "; A ( ) S")]


def many_times(dice):
    """The whole script with one of its lists made longer, some beyond its limit."""
    front, again = dice.choice(TIMES)
    return " ".join(WHOLE).replace(front, " ".join([front] + [again] * dice.randint(0, 9))).split()


def changed(dice, words):
    """These words with some taken out, put in, put in another's place or said many times over."""
    words = list(words)
    for turn in range(dice.choice([1, 1, 1, 2, 3])):
        at = dice.randrange(len(words) + 1)
        past = min(len(words), at + dice.choice([0, 1, 1, 2, 4, 6, 12]))
        way = dice.randrange(4)
        if way == 0:
            words[at:past] = []
        elif way == 1:
            words[at:at] = [dice.choice(SPARE)]
        elif way == 2:
            words[at:past] = [dice.choice(SPARE)]
        else:
            words[at:at] = words[at:past] * dice.randint(1, 10)
    return words


class Table(unittest.TestCase):

    def check(self, words):
        code, number = first_fault(words)
        text = " ".join(words)
        told = fault(text)
        if code:
            place = len(" ".join(words[:number] + [""])) if number < len(words) else len(text)
            self.assertEqual(told, (code, place if number else 0), text)
        else:
            self.assertTrue(told is None or told[0] not in (2, 3, 4, 7), text)
        return code

    def test_changed_scripts(self):
        dice = random.Random(3)
        codes = [self.check(changed(dice, WHOLE)) for turn in range(6000)]
        codes += [self.check(changed(dice, many_times(dice))) for turn in range(2000)]
        codes += [self.check(many_times(dice)) for turn in range(200)]
        for code, least in [(0, 200), (3, 3000), (4, 200), (7, 5)]:
            self.assertGreater(codes.count(code), least, code)

    def test_each_word_in_each_place(self):
        for number in range(len(WHOLE)):
            for word in SPARE:
                self.check(WHOLE[:number] + [word] + WHOLE[number + 1:])
                self.check(WHOLE[:number] + [word] + WHOLE[number:])
            self.check(WHOLE[:number] + WHOLE[number + 1:])
            self.check(WHOLE[:number])

    def test_many_states(self):
        for count in (63, 64, 65, 66):
            self.check(WHOLE + ["G", "=", "end"] * (count - 4))
            self.check(WHOLE + ["G", "=", "end"] * (count - 4) + ["="])


class Promise7(unittest.TestCase):

    def check(self, text):
        """A load answers with a script or with a fault, whose place is not beyond the text's length."""
        told, shown = ask(load(text), [SHOW])
        if told == [1]:
            self.assertEqual(shown[0], len(shown) - 1)
            return 0
        self.assertEqual(len(told), 3)
        self.assertEqual(told[0], 0)
        self.assertIn(told[1], range(1, 12))
        self.assertIn(told[2], range(len(octets(text)) + 1))
        self.assertEqual(shown, [-1])
        return told[1]

    def test_every_beginning_of_a_script(self):
        for script in (TILL, FAIR):
            for length in range(len(script) + 1):
                self.check(script[:length])

    def test_one_byte_changed(self):
        dice = random.Random(7)
        for script in (TILL, FAIR):
            for place in range(len(script)):
                text = octets(script)
                text[place] = dice.choice(octets('\n "-#,;()[]{}=0a9Z') + [dice.randrange(256)])
                self.check(text)
                self.check(text[:place] + text[place + 1:])

    def test_any_bytes(self):
        dice = random.Random(8)
        for turn in range(1000):
            self.check([dice.randrange(256) for byte in range(dice.randrange(12))])
            self.check([dice.choice(octets('aA0-"\\#\n =>')) for byte in range(dice.randrange(12))])

    def test_scripts_and_names_at_fault(self):
        """Names put in another's place: the faults of names and sides are met, and scripts too."""
        dice = random.Random(9)
        codes = []
        for turn in range(2000):
            words = some_text(dice).split(" ")
            at = dice.randrange(len(words))
            words[at] = dice.choice(["s0", "s1", "s2", "p0", "p1", "x0", "x1", "b0()", "b0()[x0,x1]", words[at]])
            codes.append(self.check(" ".join(words)))
        for code in (0, 3, 5, 6, 8, 11):
            self.assertIn(code, codes)

    def test_long_texts(self):
        for text in ["(" * 4096, "a " * 2048, "a" * 4096, "9" * 4096, "#" * 4096, '"' * 4096, "\\" * 4096, "-" * 4097,
                     "script " * 585, "script A parties " + "P " * 2000, [0] * 8192, "a\n" * 4096]:
            self.check(text)
