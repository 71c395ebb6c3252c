"""A script's one form."""

from scripttold.script import BOTH, END, NUMBER_RANGE, TRUTH_RANGE


def range_form(bounds):
    if bounds[0] == TRUTH_RANGE:
        return "flag"
    word = "num" if bounds[0] == NUMBER_RANGE else "text"
    return " ".join([word] + [str(number) for number in bounds[1:]])


def handed_form(script, handed):
    if len(handed) == 0:
        return ""
    return "[" + ", ".join([script.seats[seat] for seat in handed]) + "]"


def branch_form(script, branch):
    ranges = ", ".join([range_form(bounds) for bounds in branch.ranges])
    handed = handed_form(script, branch.handed)
    behind = script.states[branch.behind].name
    return branch.label + "(" + ranges + ")" + handed + " " + behind


def state_form(script, state):
    words = [state.name, "="]
    if state.kind == END:
        words.append("end")
    elif state.kind == BOTH:
        words.append("both")
        words.extend([script.states[side].name for side in state.sides])
    else:
        branches = " ; ".join([branch_form(script, branch) for branch in state.branches])
        words.extend([script.seats[state.seats[0]], "->", script.seats[state.seats[1]], "{", branches, "}"])
    return " ".join(words)


def seat_form(script, seat):
    return " ".join(["seat", script.seats[seat], "of", script.seats[script.holders[seat]]])


def one_form(script):
    lines = [" ".join(["script", script.title])]
    lines.append(" ".join(["parties"] + script.seats[:script.party_count]))
    lines.extend([seat_form(script, seat) for seat in range(script.party_count, len(script.seats))])
    lines.append(" ".join(["start", script.states[script.start_state].name]))
    lines.extend([state_form(script, state) for state in script.states])
    return "".join([line + "\n" for line in lines])
