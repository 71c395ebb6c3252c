"""Ways from state to state."""

from scripttold.script import BOTH


# The order matters: it numbers the state's steps.
def states_behind(state):
    if state.kind == BOTH:
        return list(state.sides)
    return [branch.behind for branch in state.branches]


# The keys are the states in the order in which they are met, each with the state and the step that led to it.
# Nothing leads to the first one: its entry is None.
def entries_from(states, first):
    entries = {first: None}
    met = [first]
    at = 0
    while at < len(met):
        for step, behind in enumerate(states_behind(states[met[at]])):
            if behind not in entries:
                entries[behind] = (met[at], step)
                met.append(behind)
        at += 1
    return entries


def met_from(states, first):
    return list(entries_from(states, first))


# None if there is no way: the start's own route is empty.
def route_to(script, number):
    entries = entries_from(script.states, script.start_state)
    if number not in entries:
        return None
    steps = []
    entry = entries[number]
    while entry is not None:
        steps.append(entry)
        entry = entries[entry[0]]
    steps.reverse()
    return steps


def share_a_state(states, sides):
    second = met_from(states, sides[1])
    return any([number in second for number in met_from(states, sides[0])])
