"""The desk: calls on one object, and their answers."""

from scripttold.faults import Fault
from scripttold.loading import script_of
from scripttold.oneform import one_form
from scripttold.script import BOTH, TALK
from scripttold.spelling import spelled
from scripttold.telling import Telling
from scripttold.tidying import are_alike, tidied
from scripttold.walking import met_from, route_to

LOAD = 0
FIRST_OF_TELLING = 12

NO_SCRIPT = -1
NO_SUCH_THING = -2
IS_NO_SCRIPT = -3
NOT_REACHED = -4
NO_TELLING = -5
NO_SUCH_OPTION = -6
LOG_IS_FULL = -7
LOG_IS_EMPTY = -8
NOT_FOUND = -9


# The script is None while none is held, the telling while there is none.
class Desk:
    def __init__(self):
        self.script = None
        self.telling = None

    # A telling speaks of states by the numbers of its own script, so it ends with it.
    def hold(self, script):
        self.script = script
        self.telling = None


def is_number_in(number, things):
    return 0 <= number < len(things)


# A text among other things needs its length ahead of it to be told apart from them.
def told_text(word):
    return [len(word)] + spelled(word)


def told_pairs(pairs):
    answer = [len(pairs)]
    for pair in pairs:
        answer.extend(pair)
    return answer


def answer_load(desk, given):
    try:
        desk.hold(script_of(given[0]))
    except Fault as fault:
        return [0, fault.code, fault.place]
    return [1]


def answer_show(desk, given):
    return told_text(one_form(desk.script))


def answer_sizes(desk, given):
    script = desk.script
    extras = len(script.seats) - script.party_count
    branches = sum([len(state.branches) for state in script.states])
    return [script.party_count, extras, len(script.states), script.start_state, branches]


def answer_seat(desk, given):
    script = desk.script
    number = given[0]
    if not is_number_in(number, script.seats):
        return [NO_SUCH_THING]
    return [script.holders[number]] + told_text(script.seats[number])


def answer_state(desk, given):
    states = desk.script.states
    if not is_number_in(given[0], states):
        return [NO_SUCH_THING]
    state = states[given[0]]
    answer = [state.kind]
    if state.kind == TALK:
        answer.extend(state.seats)
        answer.append(len(state.branches))
    if state.kind == BOTH:
        answer.extend(state.sides)
    return answer + told_text(state.name)


def told_branch(branch):
    answer = [branch.behind, len(branch.ranges)]
    for bounds in branch.ranges:
        answer.extend(bounds)
    answer.append(len(branch.handed))
    answer.extend(branch.handed)
    return answer + told_text(branch.label)


def answer_branch(desk, given):
    states = desk.script.states
    if not is_number_in(given[0], states):
        return [NO_SUCH_THING]
    branches = states[given[0]].branches
    if not is_number_in(given[1], branches):
        return [NO_SUCH_THING]
    return told_branch(branches[given[1]])


def answer_find(desk, given):
    for number, state in enumerate(desk.script.states):
        if spelled(state.name) == given[0]:
            return [number]
    return [NOT_FOUND]


def answer_reach(desk, given):
    states = desk.script.states
    if not is_number_in(given[0], states):
        return [NO_SUCH_THING]
    met = met_from(states, given[0])
    return [len(met)] + met


def answer_route(desk, given):
    if not is_number_in(given[0], desk.script.states):
        return [NO_SUCH_THING]
    steps = route_to(desk.script, given[0])
    if steps is None:
        return [NOT_REACHED]
    return told_pairs(steps)


def answer_tidy(desk, given):
    before = len(desk.script.states)
    desk.hold(tidied(desk.script))
    return [before - len(desk.script.states)]


def answer_alike(desk, given):
    try:
        other = script_of(given[0])
    except Fault:
        return [IS_NO_SCRIPT]
    return [1 if are_alike(desk.script, other) else 0]


def answer_begin(desk, given):
    desk.telling = Telling(desk.script)
    return [len(desk.telling.options())]


def answer_options(desk, given):
    return told_pairs(desk.telling.options())


def answer_choose(desk, given):
    options = desk.telling.options()
    if not is_number_in(given[0], options):
        return [NO_SUCH_OPTION]
    if desk.telling.is_full():
        return [LOG_IS_FULL]
    option = options[given[0]]
    desk.telling.tell(option)
    state = desk.script.states[option[0]]
    return state.seats + list(option) + [state.branches[option[1]].behind]


def answer_back(desk, given):
    if len(desk.telling.log) == 0:
        return [LOG_IS_EMPTY]
    desk.telling.take_back()
    return [len(desk.telling.options())]


def answer_told(desk, given):
    return told_pairs(desk.telling.log)


def answer_run(desk, given):
    return [desk.telling.tell_along(given[0])]


def answer_standing(desk, given):
    return [len(desk.telling.standing)] + desk.telling.standing


# A call more is a row more: what answers it, how many whole numbers it has, how many rows stand behind these.
CALLS = {
    0: (answer_load, 0, 1),
    1: (answer_show, 0, 0),
    2: (answer_sizes, 0, 0),
    3: (answer_seat, 1, 0),
    4: (answer_state, 1, 0),
    5: (answer_branch, 2, 0),
    6: (answer_find, 0, 1),
    7: (answer_reach, 1, 0),
    8: (answer_route, 1, 0),
    9: (answer_tidy, 0, 0),
    10: (answer_alike, 0, 1),
    11: (answer_begin, 0, 0),
    12: (answer_options, 0, 0),
    13: (answer_choose, 1, 0),
    14: (answer_back, 0, 0),
    15: (answer_told, 0, 0),
    16: (answer_run, 0, 1),
    17: (answer_standing, 0, 0),
}


def answer_call(desk, number, given):
    if number != LOAD and desk.script is None:
        return [NO_SCRIPT]
    if number >= FIRST_OF_TELLING and desk.telling is None:
        return [NO_TELLING]
    answer = CALLS[number][0]
    return answer(desk, given)


class CallReader:
    def __init__(self, calls):
        self.calls = calls
        self.at = 0

    def is_done(self):
        return self.at >= len(self.calls)

    def take_number(self):
        number = self.calls[self.at]
        self.at += 1
        return number

    def take_row(self):
        length = self.take_number()
        row = self.calls[self.at:self.at + length]
        self.at += length
        return row

    def take_given(self, number):
        given = []
        for turn in range(CALLS[number][1]):
            given.append(self.take_number())
        for turn in range(CALLS[number][2]):
            given.append(self.take_row())
        return given


def answers(calls):
    desk = Desk()
    reader = CallReader(calls)
    told = []
    while not reader.is_done():
        number = reader.take_number()
        answer = answer_call(desk, number, reader.take_given(number))
        told.append(len(answer))
        told.extend(answer)
    return told
