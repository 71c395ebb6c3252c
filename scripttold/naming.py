"""Finds what the names of a draft mean, in the order of its text."""

from scripttold.faults import Fault, NAMED_TWICE, PARTY_HANDED, SENT_TO_ITSELF, UNKNOWN_NAME
from scripttold.script import BOTH, Branch, END, Script, State, TALK


# The seats of parties are numbered first, so that party_count tells them from extra ones.
class Names:
    def __init__(self, seats, party_count, states):
        self.seats = seats
        self.party_count = party_count
        self.states = states


def claim(numbers, name):
    if name.value in numbers:
        raise Fault(NAMED_TWICE, name.place)
    numbers[name.value] = len(numbers)


def meant(numbers, name):
    if name.value not in numbers:
        raise Fault(UNKNOWN_NAME, name.place)
    return numbers[name.value]


def number_parties(parties):
    numbers = {}
    for party in parties:
        claim(numbers, party)
    return numbers


# A state may be named ahead of where it stands, so all have numbers before any name is looked at.
def number_states(states):
    numbers = {}
    for number, state in enumerate(states):
        numbers.setdefault(state.name.value, number)
    return numbers


def settle_seats(names, pair):
    sender = meant(names.seats, pair[0])
    receiver = meant(names.seats, pair[1])
    if receiver == sender:
        raise Fault(SENT_TO_ITSELF, pair[1].place)
    return [sender, receiver]


def settle_handed(names, handed):
    numbers = []
    for name in handed:
        number = meant(names.seats, name)
        if number < names.party_count:
            raise Fault(PARTY_HANDED, name.place)
        if number in numbers:
            raise Fault(NAMED_TWICE, name.place)
        numbers.append(number)
    return numbers


def settle_branches(names, branches):
    labels = {}
    settled = []
    for branch in branches:
        claim(labels, branch.label)
        handed = settle_handed(names, branch.handed)
        behind = meant(names.states, branch.behind)
        settled.append(Branch(branch.label.value, branch.ranges, handed, behind))
    return settled


def settle_state(names, number, state):
    if names.states[state.name.value] != number:
        raise Fault(NAMED_TWICE, state.name.place)
    word = state.name.value
    if state.kind == END:
        return State(word, END, [], [], [])
    if state.kind == BOTH:
        return State(word, BOTH, [], [meant(names.states, side) for side in state.pair], [])
    seats = settle_seats(names, state.pair)
    return State(word, TALK, seats, [], settle_branches(names, state.branches))


def settled_script(draft):
    parties = number_parties(draft.parties)
    seats = dict(parties)
    holders = list(parties.values())
    for extra in draft.extras:
        claim(seats, extra[0])
        holders.append(meant(parties, extra[1]))
    names = Names(seats, len(parties), number_states(draft.states))
    start_state = meant(names.states, draft.start_name)
    states = [settle_state(names, number, state) for number, state in enumerate(draft.states)]
    return Script(draft.title.value, len(parties), list(seats), holders, start_state, states)
