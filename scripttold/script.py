"""A script, with numbers in the place of names wherever a thing is meant."""

# A state's kind and a range's kind are the numbers that stand for them in answers.
END = 0
TALK = 1
BOTH = 2

TRUTH_RANGE = 0
NUMBER_RANGE = 1
TEXT_RANGE = 2


# Seats are the parties' own and then the extra ones; holders has a party for each seat.
class Script:
    def __init__(self, title, party_count, seats, holders, start_state, states):
        self.title = title
        self.party_count = party_count
        self.seats = seats
        self.holders = holders
        self.start_state = start_state
        self.states = states


# A talk has two seats and its branches, a both has two sides; what a state has not is empty.
class State:
    def __init__(self, name, kind, seats, sides, branches):
        self.name = name
        self.kind = kind
        self.seats = seats
        self.sides = sides
        self.branches = branches


# A range is a tuple: its kind, then its numbers.
class Branch:
    def __init__(self, label, ranges, handed, behind):
        self.label = label
        self.ranges = ranges
        self.handed = handed
        self.behind = behind
