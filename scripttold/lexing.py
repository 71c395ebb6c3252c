"""Takes a text apart into tokens."""

from scripttold.faults import Fault, NO_TOKEN
from scripttold.spelling import FIRST_DIGIT, is_digit, is_letter, spelled, word_of

# Reserved words and signs are one kind, FIXED: no two of them are spelled alike.
NAME = "name"
NUMBER = "number"
QUOTED = "quoted"
FIXED = "fixed"
ENDING = "ending"

RESERVED = (
    "script", "parties", "seat", "of", "start", "end", "both", "flag", "num", "text", "part", "stop", "send", "recv",
    "program", "for", "def", "if", "pick", "any", "set", "go", "true", "false",
)
SIGNS = ("->", "<-", "=", "{", "}", "(", ")", "[", "]", ",", ";", ":", "!", "?", "|")

MOST_NAME_BYTES = 16
MOST_DIGITS = 10
LARGEST_NUMBER = 1000000000
MOST_QUOTED_BYTES = 255

LINE_END = 10
BLANKS = (32, 9, 10)
REMARK = 35
MINUS = 45
QUOTE = 34
BACKSLASH = 92
LETTER_N = 110
LETTER_X = 120
NO_BYTE = -1


class Token:
    def __init__(self, kind, value, place, past):
        self.kind = kind
        self.value = value
        self.place = place
        self.past = past


def byte_at(text, place):
    return text[place] if place < len(text) else NO_BYTE


def skip_remark(text, place):
    while place < len(text) and text[place] != LINE_END:
        place += 1
    return place


def skip_blanks(text, place):
    while byte_at(text, place) in BLANKS or byte_at(text, place) == REMARK:
        if text[place] == REMARK:
            place = skip_remark(text, place)
        else:
            place += 1
    return place


def read_name(text, place):
    past = place
    while is_letter(byte_at(text, past)) or is_digit(byte_at(text, past)):
        past += 1
    if past - place > MOST_NAME_BYTES:
        raise Fault(NO_TOKEN, place)
    word = word_of(text[place:past])
    return Token(FIXED if word in RESERVED else NAME, word, place, past)


def number_of(digits):
    value = 0
    for byte in digits:
        value = value * 10 + byte - FIRST_DIGIT
    return value


def read_number(text, place):
    below = text[place] == MINUS
    first = place + 1 if below else place
    past = first
    while is_digit(byte_at(text, past)):
        past += 1
    count = past - first
    needless = text[first] == FIRST_DIGIT and (below or count > 1)
    if needless or count > MOST_DIGITS:
        raise Fault(NO_TOKEN, place)
    value = number_of(text[first:past])
    if value > LARGEST_NUMBER:
        raise Fault(NO_TOKEN, place)
    return Token(NUMBER, -value if below else value, place, past)


def is_hex_digit(byte):
    return is_digit(byte) or byte in spelled("abcdef")


# 0 stands for no escape.
def escape_length(text, place):
    told = byte_at(text, place + 1)
    if told in (QUOTE, BACKSLASH, LETTER_N):
        return 2
    if told == LETTER_X and is_hex_digit(byte_at(text, place + 2)) and is_hex_digit(byte_at(text, place + 3)):
        return 4
    return 0


# How many bytes tell one byte; 0 where a quoted text cannot go on.
def quoted_length(text, place):
    byte = byte_at(text, place)
    if byte == BACKSLASH:
        return escape_length(text, place)
    return 0 if byte in (NO_BYTE, LINE_END) else 1


def read_quoted(text, place):
    at = place + 1
    told = 0
    while byte_at(text, at) != QUOTE:
        length = quoted_length(text, at)
        if length == 0 or told == MOST_QUOTED_BYTES:
            raise Fault(NO_TOKEN, place)
        at += length
        told += 1
    # No script holds a quoted text, so what it tells is not kept.
    return Token(QUOTED, "", place, at + 1)


def read_sign(text, place):
    for sign in SIGNS:
        past = place + len(sign)
        if text[place:past] == spelled(sign):
            return Token(FIXED, sign, place, past)
    raise Fault(NO_TOKEN, place)


def read_token(text, place):
    byte = text[place]
    if is_letter(byte):
        return read_name(text, place)
    if is_digit(byte) or (byte == MINUS and is_digit(byte_at(text, place + 1))):
        return read_number(text, place)
    if byte == QUOTE:
        return read_quoted(text, place)
    return read_sign(text, place)


# The ending is a token too, so that the grammar can tell its place.
def tokens_of(text):
    tokens = []
    place = skip_blanks(text, 0)
    while place < len(text):
        token = read_token(text, place)
        tokens.append(token)
        place = skip_blanks(text, token.past)
    tokens.append(Token(ENDING, "", place, place))
    return tokens
