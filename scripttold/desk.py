"""The desk: calls on one object, and their answers."""

from scripttold.faults import Fault
from scripttold.loading import script_of
from scripttold.oneform import one_form
from scripttold.script import BOTH, TALK
from scripttold.spelling import spelled
from scripttold.walking import met_from, route_to

LOAD = 0

NO_SCRIPT = -1
NO_SUCH_THING = -2
NOT_REACHED = -4
NOT_FOUND = -9


# The script is None while none is held.
class Desk:
    def __init__(self):
        self.script = None


def is_number_in(number, things):
    return 0 <= number < len(things)


# A text among other things needs its length ahead of it to be told apart from them.
def told_text(word):
    return [len(word)] + spelled(word)


def answer_load(desk, given):
    try:
        desk.script = script_of(given[0])
    except Fault as fault:
        return [0, fault.code, fault.place]
    return [1]


def answer_show(desk, given):
    return told_text(one_form(desk.script))


def answer_sizes(desk, given):
    script = desk.script
    extras = len(script.seats) - script.party_count
    branches = sum([len(state.branches) for state in script.states])
    return [script.party_count, extras, len(script.states), script.start_state, branches]


def answer_seat(desk, given):
    script = desk.script
    number = given[0]
    if not is_number_in(number, script.seats):
        return [NO_SUCH_THING]
    return [script.holders[number]] + told_text(script.seats[number])


def answer_state(desk, given):
    states = desk.script.states
    if not is_number_in(given[0], states):
        return [NO_SUCH_THING]
    state = states[given[0]]
    answer = [state.kind]
    if state.kind == TALK:
        answer.extend(state.seats)
        answer.append(len(state.branches))
    if state.kind == BOTH:
        answer.extend(state.sides)
    return answer + told_text(state.name)


def told_branch(branch):
    answer = [branch.behind, len(branch.ranges)]
    for bounds in branch.ranges:
        answer.extend(bounds)
    answer.append(len(branch.handed))
    answer.extend(branch.handed)
    return answer + told_text(branch.label)


def answer_branch(desk, given):
    states = desk.script.states
    if not is_number_in(given[0], states):
        return [NO_SUCH_THING]
    branches = states[given[0]].branches
    if not is_number_in(given[1], branches):
        return [NO_SUCH_THING]
    return told_branch(branches[given[1]])


def answer_find(desk, given):
    for number, state in enumerate(desk.script.states):
        if spelled(state.name) == given[0]:
            return [number]
    return [NOT_FOUND]


def answer_reach(desk, given):
    states = desk.script.states
    if not is_number_in(given[0], states):
        return [NO_SUCH_THING]
    met = met_from(states, given[0])
    return [len(met)] + met


def answer_route(desk, given):
    if not is_number_in(given[0], desk.script.states):
        return [NO_SUCH_THING]
    steps = route_to(desk.script, given[0])
    if steps is None:
        return [NOT_REACHED]
    answer = [len(steps)]
    for step in steps:
        answer.extend(step)
    return answer


# A call more is a row more: what answers it, how many whole numbers it has, how many rows stand behind these.
CALLS = {
    0: (answer_load, 0, 1),
    1: (answer_show, 0, 0),
    2: (answer_sizes, 0, 0),
    3: (answer_seat, 1, 0),
    4: (answer_state, 1, 0),
    5: (answer_branch, 2, 0),
    6: (answer_find, 0, 1),
    7: (answer_reach, 1, 0),
    8: (answer_route, 1, 0),
}


def answer_call(desk, number, given):
    if number != LOAD and desk.script is None:
        return [NO_SCRIPT]
    answer = CALLS[number][0]
    return answer(desk, given)


class CallReader:
    def __init__(self, calls):
        self.calls = calls
        self.at = 0

    def is_done(self):
        return self.at >= len(self.calls)

    def take_number(self):
        number = self.calls[self.at]
        self.at += 1
        return number

    def take_row(self):
        length = self.take_number()
        row = self.calls[self.at:self.at + length]
        self.at += length
        return row

    def take_given(self, number):
        given = []
        for turn in range(CALLS[number][1]):
            given.append(self.take_number())
        for turn in range(CALLS[number][2]):
            given.append(self.take_row())
        return given


def answers(calls):
    desk = Desk()
    reader = CallReader(calls)
    told = []
    while not reader.is_done():
        number = reader.take_number()
        answer = answer_call(desk, number, reader.take_given(number))
        told.append(len(answer))
        told.extend(answer)
    return told
