"""A script without the states that nobody can come to, and scripts that are alike."""

from scripttold.script import Branch, Script, State
from scripttold.walking import met_from


def renumbered_state(state, numbers):
    sides = [numbers[side] for side in state.sides]
    branches = [
        Branch(branch.label, branch.ranges, branch.handed, numbers[branch.behind]) for branch in state.branches
    ]
    return State(state.name, state.kind, state.seats, sides, branches)


# All that is behind a state that is met is met too, so every number that is needed is there.
def tidied(script):
    met = met_from(script.states, script.start_state)
    numbers = {}
    for number in met:
        numbers[number] = len(numbers)
    states = [renumbered_state(script.states[number], numbers) for number in met]
    return Script(script.title, script.party_count, script.seats, script.holders, 0, states)


def nameless_state(state):
    branches = [(branch.label, branch.ranges, branch.handed, branch.behind) for branch in state.branches]
    return (state.kind, state.seats, state.sides, branches)


# Once tidied, scripts that are alike differ in nothing but what is left out here: the title and the states' names.
def nameless(script):
    states = [nameless_state(state) for state in script.states]
    return (script.party_count, script.seats, script.holders, states)


def are_alike(one, other):
    return nameless(tidied(one)) == nameless(tidied(other))
