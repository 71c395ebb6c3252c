"""The fault of a text that is no script."""

TOO_LONG = 1
NO_TOKEN = 2
NOT_ALLOWED = 3
ONE_TOO_MANY = 4
NAMED_TWICE = 5
UNKNOWN_NAME = 6
BAD_BOUND = 7
SENT_TO_ITSELF = 8
PARTY_HANDED = 9
FORM_TOO_LONG = 10
SIDES_SHARE = 11


class Fault(ValueError):
    def __init__(self, code, place):
        self.code = code
        self.place = place
