"""From a text to its script or its fault."""

from scripttold.faults import Fault, FORM_TOO_LONG, SIDES_SHARE, TOO_LONG
from scripttold.grammar import draft_of
from scripttold.lexing import tokens_of
from scripttold.naming import settled_script
from scripttold.oneform import one_form
from scripttold.script import BOTH
from scripttold.walking import share_a_state

MOST_BYTES = 4096


def check_sides(draft, script):
    for number, state in enumerate(script.states):
        if state.kind == BOTH and share_a_state(script.states, state.sides):
            raise Fault(SIDES_SHARE, draft.states[number].name.place)


def script_of(text):
    if len(text) > MOST_BYTES:
        raise Fault(TOO_LONG, MOST_BYTES)
    draft = draft_of(tokens_of(text))
    script = settled_script(draft)
    check_sides(draft, script)
    if len(one_form(script)) > MOST_BYTES:
        raise Fault(FORM_TOO_LONG, 0)
    return script
