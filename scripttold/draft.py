"""A script as its text has it: every name is still a token, so that a fault can tell its place."""


# Each extra seat is a tuple of two names, its own and its holder's.
class Draft:
    def __init__(self, title, parties, extras, start_name, states):
        self.title = title
        self.parties = parties
        self.extras = extras
        self.start_name = start_name
        self.states = states


# The pair is a talk's two seats or a both's two sides; an end's is empty.
class DraftState:
    def __init__(self, name, kind, pair, branches):
        self.name = name
        self.kind = kind
        self.pair = pair
        self.branches = branches


# The ranges stand as in a script: they hold no names.
class DraftBranch:
    def __init__(self, label, ranges, handed, behind):
        self.label = label
        self.ranges = ranges
        self.handed = handed
        self.behind = behind
