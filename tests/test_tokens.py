"""How a text is taken apart: codes 1 and 2, blanks and remarks, and every kind of token."""

import re
import random
import unittest

from tests.helper import SHOW, TILL, ask, fault, load, octets, shown, talk

HEAD = "script A parties P Q start S S = end"


def alone(token):
    """The fault of a text that is this token behind a whole script."""
    return fault(HEAD + " " + token)


BEHIND = len(HEAD) + 1


class Tokens(unittest.TestCase):

    def test_no_token(self):
        """Each of these is code 2 at its first byte, though the grammar has a fault there too."""
        for token in ["a" * 17, "a1" * 9, "00", "07", "-0", "-00", "-07", "12345678901", "00000000001", "1000000001",
                      "-1000000001", "9999999999", "-", "--", "- 1", "-a", "-<", "<", "<<", "< -", ">", "+", "*", "/",
                      ".", "@", "'", "\\", "$", "%", "&", "_", "`", "~", "^", "\r", "\0", "\x0b", "\x0c", "\x7f",
                      "\x80", "\xff", "\xa0", "_a", "0" * 3000, "1" * 3000]:
            with self.subTest(token=token):
                self.assertEqual(alone(token), (2, BEHIND))

    def test_tokens_that_the_grammar_does_not_allow(self):
        """Each of these is a token, so that the fault is the grammar's."""
        for token in ["0", "7", "10", "-1", "-10", "1000000000", "-1000000000", "999999999", "->", "<-", "=", "{", "}",
                      "(", ")", "[", "]", ",", ";", ":", "!", "?", "|", "12ab", '""', '"a#b"']:
            with self.subTest(token=token):
                self.assertEqual(alone(token), (3, BEHIND))

    def test_names_of_16_bytes(self):
        name = "aZ09bY18cX27dW36"
        self.assertEqual(len(name), 16)
        self.assertIsNone(fault(f"script {name} parties P start S S = end"))
        self.assertEqual(fault(f"script {name}e parties P start S S = end"), (2, 7))

    def test_tokens_that_touch(self):
        self.assertEqual(shown("script A parties P Q start S S=P->Q{a(num 1-2)S}".replace("1-2", "-2-1")),
                         "script A\nparties P Q\nstart S\nS = P -> Q { a(num -2 -1) S }\n")
        self.assertEqual(fault("script 12ab"), (3, 7))
        self.assertEqual(fault("script a1-2"), (3, 9))
        self.assertEqual(fault("script A parties P Q start S S=P<-Q"), (3, 32))
        self.assertEqual(fault("script A parties P Q start S S=P<->Q"), (2, 34))
        self.assertEqual(fault("script A parties P Q start S S=P--> Q"), (2, 32))

    def test_a_number_right_ahead_of_a_name(self):
        self.assertEqual(fault(talk("a(num 0 5x) S")), (3, talk("a(num 0 5x) S").index("x")))

    def test_blanks(self):
        self.assertEqual(shown(" \t\n" + TILL.replace(" ", "\t\n \t") + "\n\n "), TILL)
        self.assertEqual(fault("script\rA"), (2, 6))

    def test_remarks(self):
        self.assertEqual(shown("#\n" + TILL.replace("\n", "# \" \x00 \xff = { - # \r\n") + "# no end"), TILL)
        self.assertEqual(shown(TILL + "#"), TILL)
        self.assertEqual(shown(TILL[:-1] + "#end"), TILL)
        self.assertEqual(fault("# script"), (3, 8))
        self.assertEqual(fault("script#\nA # -\n-"), (2, 14))


class Quoted(unittest.TestCase):

    def test_quoted_texts(self):
        """A quoted text is a token, and no script has one."""
        for inside in ["", "a", " \t", "#", "'", "\r", "\0", "\xff", '\\"', "\\\\", "\\n", "\\x00", "\\xff", "\\x9a",
                       '\\\\\\"', "a" * 255, "\\x61" * 255, '\\"' * 255, "\\n" * 254 + "\xff", "\\\\" * 255]:
            with self.subTest(inside=inside):
                self.assertEqual(alone('"' + inside + '"'), (3, BEHIND))

    def test_no_quoted_texts(self):
        for inside in ["\n", "a\nb", "\\a", "\\N", "\\X41", "\\x", "\\x4", "\\x4g", "\\xg4", "\\xAB", "\\xaB", "\\x-1",
                       "\\ ", "\\\n", "a" * 256, "\\x61" * 256, '\\"' * 256, "\\n" * 255 + "a", "\\\\" * 256]:
            with self.subTest(inside=inside):
                self.assertEqual(alone('"' + inside + '"'), (2, BEHIND))

    def test_every_byte_as_a_digit_of_an_escape(self):
        for byte in range(256):
            code = 3 if byte in b"0123456789abcdef" else 2
            self.assertEqual(alone(f'"\\x{chr(byte)}0"'), (code, BEHIND), byte)
            self.assertEqual(alone(f'"\\x0{chr(byte)}"'), (code, BEHIND), byte)

    def test_every_byte_behind_a_backslash(self):
        for byte in range(256):
            code = 3 if byte in b'"\\n' else 2
            self.assertEqual(alone(f'"\\{chr(byte)}"'), (code, BEHIND), byte)

    def test_unclosed(self):
        for token in ['"', '"a', '"\\', '"\\"', '"\\x', '"\\x4', '"\\x41', '"' + "a" * 255, '"a # "'[:-1], '"\\\\\\"']:
            with self.subTest(token=token):
                self.assertEqual(alone(token), (2, BEHIND))

    def test_what_follows_a_quoted_text(self):
        self.assertEqual(alone('"a""b" -'), (2, BEHIND + 7))
        self.assertEqual(alone('"a"b"'), (2, BEHIND + 4))
        self.assertEqual(alone('"\\\\" -'), (2, BEHIND + 5))


class Lengths(unittest.TestCase):

    def test_4096_and_4097_bytes(self):
        self.assertEqual(shown(TILL + " " * (4096 - len(TILL))), TILL)
        self.assertEqual(shown(TILL + "#" * (4096 - len(TILL))), TILL)
        self.assertEqual(fault(TILL + " " * (4097 - len(TILL))), (1, 4096))

    def test_length_comes_before_all_else(self):
        self.assertEqual(fault("-" + " " * 4095), (2, 0))
        self.assertEqual(fault("-" + " " * 4096), (1, 4096))
        self.assertEqual(fault([255] * 8192), (1, 4096))

    def test_nothing_at_all(self):
        self.assertEqual(fault(""), (3, 0))
        self.assertEqual(fault(" "), (3, 1))
        self.assertEqual(fault(" " * 4096), (3, 4096))


# The tokens once more, in another way of saying it.
QUOTED = r'"(?:[^"\\\n]|\\["\\n]|\\x[0-9a-f][0-9a-f]){0,255}"'
NUMBER = r"(?:0|-?[1-9][0-9]{0,8}|-?1000000000)(?![0-9])"
TOKEN = re.compile(r"[A-Za-z][A-Za-z0-9]{0,15}(?![A-Za-z0-9])|->|<-|[={}()\[\],;:!?|]|" + NUMBER + "|" + QUOTED)
BLANK = re.compile(r"(?:[ \t\n]|#[^\n]*)*")


def first_place_without_token(text):
    at = BLANK.match(text, 0).end()
    while at < len(text):
        match = TOKEN.match(text, at)
        if match is None:
            return at
        at = BLANK.match(text, match.end()).end()
    return None


class ManyTexts(unittest.TestCase):

    def test_code_2_is_just_where_no_token_begins(self):
        dice = random.Random(2)
        pieces = list('aZ09-<>=#"\\\n\t ,x{') + ["script", "-1", "10", "00", '"a"', "\\x4f", "1000000000", "1000000001",
                                                 "a" * 16, '"\\n', "->", "<-", "\xe9", "\r"]
        faults = 0
        for turn in range(6000):
            text = "".join(dice.choice(pieces) for piece in range(dice.randint(0, 9)))
            place = first_place_without_token(text)
            told = fault(text)
            if place is None:
                self.assertNotEqual(told[0], 2, text)
            else:
                faults += 1
                self.assertEqual(told, (2, place), text)
        self.assertGreater(faults, 1000)
        self.assertLess(faults, 5900)

    def test_every_byte_alone(self):
        allowed = set(octets("={}()[],;:!?|0123456789")) | {byte for byte in range(128) if chr(byte).isalpha()}
        for byte in range(256):
            told = ask(load([byte]), [SHOW])
            code, place = (3, 1) if byte in (9, 10, 32, 35) else (3, 0) if byte in allowed else (2, 0)
            self.assertEqual(told, [[0, code, place], [-1]], byte)
