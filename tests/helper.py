"""What the tests share: calls written in words, and scripts of many shapes."""

import random

from scripttold.desk import answers

LOAD, SHOW, SIZES, SEAT, STATE, BRANCH, FIND, REACH, ROUTE = range(9)
TIDY, ALIKE, BEGIN, OPTIONS, CHOOSE, BACK, TOLD, RUN, STANDING = range(9, 18)
FAR = 10 ** 18
# The calls that need a telling, one each.
TALKING = [[OPTIONS], [CHOOSE, 0], [BACK], [TOLD], [RUN, 1, 0], [STANDING]]

TILL = """script Till
parties Buyer Shop Clerk
seat Desk of Shop
start Ask
Ask = Buyer -> Desk { want(text 20, num 1 9) Pass ; bye() Done }
Pass = Shop -> Clerk { take()[Desk] Pay }
Pay = Desk -> Buyer { price(num 0 500) Ask }
Done = end
"""

# Every kind of thing: extra seats, both, end, three kinds of range, one and two handed seats,
# and states (Lost, Gone) that nobody can come to.
FAIR = """script Fair
parties Ann Bob Cid
seat Key of Cid
seat Cup of Ann
seat Hat of Bob
start Open
Open = both Left Right
Left = Ann -> Bob { yes(flag)[Key, Cup] Left ; no(num -5 5, text 0, flag, text 255) LeftEnd }
Right = Hat -> Cup { go1()[Hat] RightEnd ; go2(num -1000000000 1000000000) Right ; go3() Right }
LeftEnd = end
RightEnd = end
Lost = Cid -> Hat { back() Open ; on() Gone }
Gone = end
"""

# Boths within a both, a side that is an end, ends right behind a branch, talks that come back to themselves, states
# (Nowhere, Lone, Last, Nowhere2) that nobody can come to, and a start state in the midst.
NEST = """script Nest
parties Ann Bob
start Root
Nowhere = Ann -> Bob { in() Root ; out() Last }
Stop1 = end
Low = Bob -> Ann { low1() Low ; low2() Stop1 }
Root = both Deep Wide
Lone = both Last Nowhere2
Deep = both Quiet Low
Quiet = end
Wide = both High Far
Stop2 = end
High = Ann -> Bob { high1() Stop2 ; high2() Split ; high3() High }
Split = both Pair1 Pair2
Pair1 = Ann -> Bob { p1() Pair1 ; p2() Stop3 }
Pair2 = Bob -> Ann { q1() Stop4 }
Stop3 = end
Stop4 = end
Far = Bob -> Ann { far1() Stop5 ; far2() Far2 }
Far2 = Ann -> Bob { far3() Far }
Stop5 = end
Last = end
Nowhere2 = end
"""


def octets(text):
    """The bytes of a text; a list of bytes stays as it is."""
    return list(text) if isinstance(text, (list, bytes)) else list(text.encode("latin-1"))


def row(text):
    numbers = octets(text)
    return [len(numbers)] + numbers


def load(text):
    return [LOAD] + row(text)


def find(text):
    return [FIND] + row(text)


def alike(text):
    return [ALIKE] + row(text)


def run(*numbers):
    return [RUN, len(numbers)] + list(numbers)


def split(flat):
    """The answers, one list a call."""
    told = []
    at = 0
    while at < len(flat):
        told.append(flat[at + 1:at + 1 + flat[at]])
        assert len(told[-1]) == flat[at]
        at += 1 + flat[at]
    return told


def ask(*calls):
    """What each of these calls on one new object answers."""
    line = [number for call in calls for number in call]
    assert len(calls) <= 400 and len(line) <= 17000
    told = split(answers(line))
    assert len(told) == len(calls)
    return told


def ask_of(script, *calls):
    """What each of these calls answers once the script is loaded."""
    told = ask(load(script), *calls)
    assert told[0] == [1], told[0]
    return told[1:]


def fault(text):
    """The code and place of a text's fault, None if it is a script."""
    told = ask(load(text))[0]
    if told == [1]:
        return None
    assert told[0] == 0 and len(told) == 3, told
    return tuple(told[1:])


def shown(script):
    """The one form of a script."""
    told = ask_of(script, [SHOW])[0]
    assert told[0] == len(told) - 1
    return bytes(told[1:]).decode("latin-1")


def talk(branches, title="A", parties="P Q", seats="", rest=""):
    """A script with one talk S that has these branches."""
    return f"script {title} parties {parties} {seats} start S S = P -> Q {{ {branches} }} {rest}"


def some_range(dice):
    low = dice.randint(-9, 9)
    return dice.choice(["flag", f"num {low} {low + dice.randint(0, 9)}", f"text {dice.randint(0, 255)}"])


def some_branch(dice, number, extras, target):
    ranges = ",".join(some_range(dice) for turn in range(dice.choice([0, 0, 1, 2, 4])))
    handed = dice.sample(extras, min(len(extras), dice.choice([0, 0, 1, 2])))
    brackets = "[" + ",".join(handed) + "]" if handed else ""
    return f"b{number}({ranges}){brackets} s{target}"


def some_state(dice, number, count, seats, extras):
    kind = dice.choice(["end", "both", "talk", "talk", "talk"])
    if kind == "end" or (kind == "both" and number + 2 >= count):
        return f"s{number} = end"
    if kind == "both":
        first, second = dice.sample(range(number + 1, count), 2)
        return f"s{number} = both s{first} s{second}"
    sender, receiver = dice.sample(seats, 2)
    targets = [dice.randrange(count) for turn in range(dice.randint(1, 4))]
    branches = [some_branch(dice, turn, extras, target) for turn, target in enumerate(targets)]
    return f"s{number} = {sender} -> {receiver} {{ {';'.join(branches)} }}"


def some_text(dice):
    """A text that keeps to the grammar and to its names; a both's sides may share a state."""
    parties = [f"p{number}" for number in range(dice.randint(2, 4))]
    extras = [f"x{number}" for number in range(dice.randint(0, 3))]
    count = dice.randint(1, 9)
    lines = ["script T", "parties " + " ".join(parties)]
    lines += [f"seat {name} of {dice.choice(parties)}" for name in extras]
    lines += [f"start s{dice.randrange(count)}"]
    lines += [some_state(dice, number, count, parties + extras, extras) for number in range(count)]
    return dice.choice(["\n", " ", "\t # a remark = {\n"]).join(lines)


def some_scripts(seed, count):
    """Many scripts, the same ones each time."""
    dice = random.Random(seed)
    scripts = []
    while len(scripts) < count:
        text = some_text(dice)
        if fault(text) is None:
            scripts.append(text)
    return scripts


def some_region(dice, states, depth):
    """Puts states into the dict that lead nowhere but to one another and into regions of their own; gives their names.

    So the two sides of a both, each in its own region, share no state.
    """
    names = [f"s{len(states) + number}" for number in range(dice.randint(1, 3))]
    states.update(dict.fromkeys(names))
    for name in names:
        kind = dice.choice(["end", "talk", "talk", "both", "both", "both"] if depth else ["end", "talk", "talk"])
        if kind == "both":
            sides = [dice.choice(some_region(dice, states, depth - 1)) for turn in range(2)]
            states[name] = f"both {sides[0]} {sides[1]}"
        elif kind == "end":
            states[name] = "end"
        else:
            behind = [dice.choice(names) for turn in range(dice.randint(1, 3))]
            branches = [f"b{number}() {other}" for number, other in enumerate(behind)]
            states[name] = f"{dice.choice(['P -> Q', 'Q -> X', 'X -> P'])} {{ {' ; '.join(branches)} }}"
    return names


def woven_text(dice):
    """A text with boths within boths; its states stand in any order, and some of them may be out of reach."""
    states = {}
    first = dice.choice(some_region(dice, states, 3))
    if dice.random() < 0.5:
        states["u0"] = f"P -> Q {{ a() {dice.choice(list(states))} ; b() u1 ; c() u0 }}"
        states["u1"] = "end"
    lines = [f"{name} = {states[name]}" for name in dice.sample(list(states), len(states))]
    return "\n".join(["script W parties P Q seat X of Q start " + first] + lines)


def woven_scripts(seed, count):
    """Many scripts that stand at several talks at once, the same ones each time."""
    dice = random.Random(seed)
    scripts = []
    while len(scripts) < count:
        text = woven_text(dice)
        if fault(text) is None:
            scripts.append(text)
    return scripts
