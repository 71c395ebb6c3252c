"""Reads tokens into a draft, by the grammar."""

from scripttold.draft import Draft, DraftBranch, DraftState
from scripttold.faults import BAD_BOUND, Fault, NOT_ALLOWED, ONE_TOO_MANY
from scripttold.lexing import ENDING, FIXED, NAME, NUMBER
from scripttold.script import BOTH, END, NUMBER_RANGE, TALK, TEXT_RANGE, TRUTH_RANGE

MOST_PARTIES = 8
MOST_EXTRA_SEATS = 8
MOST_STATES = 64
MOST_BRANCHES = 8
MOST_RANGES = 4
MOST_HANDED = 2
MOST_TEXT_BYTES = 255


# The ending is never taken, so that there is always a token ahead: it gives a text that ends too early its place.
class Reader:
    def __init__(self, tokens):
        self.tokens = tokens
        self.at = 0

    def ahead(self):
        return self.tokens[self.at]

    def sees_kind(self, kind):
        return self.ahead().kind == kind

    def sees(self, fixed):
        return self.sees_kind(FIXED) and self.ahead().value == fixed

    def take(self):
        token = self.ahead()
        self.at += 1
        return token

    def take_kind(self, kind):
        if not self.sees_kind(kind):
            raise Fault(NOT_ALLOWED, self.ahead().place)
        return self.take()

    def take_one_of(self, words):
        if not self.sees_kind(FIXED) or self.ahead().value not in words:
            raise Fault(NOT_ALLOWED, self.ahead().place)
        return self.take()

    def take_fixed(self, word):
        return self.take_one_of((word,))


# Only asked of a token that the grammar allows: else it is at fault for that, whatever the count.
def check_room(token, count, most):
    if count >= most:
        raise Fault(ONE_TOO_MANY, token.place)


def read_parties(reader):
    reader.take_fixed("parties")
    parties = [reader.take_kind(NAME)]
    while reader.sees_kind(NAME):
        party = reader.take()
        check_room(party, len(parties), MOST_PARTIES)
        parties.append(party)
    return parties


def read_extras(reader):
    extras = []
    while reader.sees("seat"):
        check_room(reader.take(), len(extras), MOST_EXTRA_SEATS)
        name = reader.take_kind(NAME)
        reader.take_fixed("of")
        extras.append((name, reader.take_kind(NAME)))
    return extras


def read_number_range(reader):
    low = reader.take_kind(NUMBER)
    high = reader.take_kind(NUMBER)
    if high.value < low.value:
        raise Fault(BAD_BOUND, high.place)
    return (NUMBER_RANGE, low.value, high.value)


def read_text_range(reader):
    most = reader.take_kind(NUMBER)
    if most.value < 0 or most.value > MOST_TEXT_BYTES:
        raise Fault(BAD_BOUND, most.place)
    return (TEXT_RANGE, most.value)


def read_range(reader, count):
    word = reader.take_one_of(("flag", "num", "text"))
    check_room(word, count, MOST_RANGES)
    if word.value == "num":
        return read_number_range(reader)
    if word.value == "text":
        return read_text_range(reader)
    return (TRUTH_RANGE,)


def read_ranges(reader):
    reader.take_fixed("(")
    if reader.sees(")"):
        reader.take()
        return []
    ranges = [read_range(reader, 0)]
    while reader.take_one_of((",", ")")).value == ",":
        ranges.append(read_range(reader, len(ranges)))
    return ranges


def read_handed(reader):
    if not reader.sees("["):
        return []
    reader.take()
    handed = [reader.take_kind(NAME)]
    while reader.take_one_of((",", "]")).value == ",":
        seat = reader.take_kind(NAME)
        check_room(seat, len(handed), MOST_HANDED)
        handed.append(seat)
    return handed


def read_branch(reader, count):
    label = reader.take_kind(NAME)
    check_room(label, count, MOST_BRANCHES)
    ranges = read_ranges(reader)
    handed = read_handed(reader)
    return DraftBranch(label, ranges, handed, reader.take_kind(NAME))


def read_branches(reader):
    reader.take_fixed("{")
    branches = [read_branch(reader, 0)]
    while reader.take_one_of((";", "}")).value == ";":
        branches.append(read_branch(reader, len(branches)))
    return branches


def read_both(reader, name):
    first = reader.take_kind(NAME)
    return DraftState(name, BOTH, [first, reader.take_kind(NAME)], [])


def read_talk(reader, name):
    sender = reader.take_kind(NAME)
    reader.take_fixed("->")
    receiver = reader.take_kind(NAME)
    return DraftState(name, TALK, [sender, receiver], read_branches(reader))


def read_state(reader, count):
    name = reader.take_kind(NAME)
    check_room(name, count, MOST_STATES)
    reader.take_fixed("=")
    if reader.sees("end"):
        reader.take()
        return DraftState(name, END, [], [])
    if reader.sees("both"):
        reader.take()
        return read_both(reader, name)
    return read_talk(reader, name)


def read_states(reader):
    states = [read_state(reader, 0)]
    while not reader.sees_kind(ENDING):
        states.append(read_state(reader, len(states)))
    return states


def draft_of(tokens):
    reader = Reader(tokens)
    reader.take_fixed("script")
    title = reader.take_kind(NAME)
    parties = read_parties(reader)
    extras = read_extras(reader)
    reader.take_fixed("start")
    start_name = reader.take_kind(NAME)
    return Draft(title, parties, extras, start_name, read_states(reader))
