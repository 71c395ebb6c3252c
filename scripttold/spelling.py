"""Words as bytes, and bytes as words."""

LETTERS = "abcdefghijklmnopqrstuvwxyz"
DIGITS = "0123456789"
FIRST_DIGIT = 48
FIRST_GREAT = 65
FIRST_SMALL = 97


def is_digit(byte):
    return FIRST_DIGIT <= byte < FIRST_DIGIT + 10


def is_great(byte):
    return FIRST_GREAT <= byte < FIRST_GREAT + 26


def is_small(byte):
    return FIRST_SMALL <= byte < FIRST_SMALL + 26


def is_letter(byte):
    return is_great(byte) or is_small(byte)


def sign_of(byte):
    if is_digit(byte):
        return DIGITS[byte - FIRST_DIGIT]
    if is_great(byte):
        return LETTERS[byte - FIRST_GREAT].upper()
    return LETTERS[byte - FIRST_SMALL]


def word_of(letters_and_digits):
    return "".join([sign_of(byte) for byte in letters_and_digits])


def spelled(word):
    return [ord(sign) for sign in word]
