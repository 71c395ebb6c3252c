"""What the tests share: calls written in words, and scripts of many shapes."""

import random

from scripttold.desk import answers

LOAD, SHOW, SIZES, SEAT, STATE, BRANCH, FIND, REACH, ROUTE = range(9)
FAR = 10 ** 18

TILL = """script Till
parties Buyer Shop Clerk
seat Desk of Shop
start Ask
Ask = Buyer -> Desk { want(text 20, num 1 9) Pass ; bye() Done }
Pass = Shop -> Clerk { take()[Desk] Pay }
Pay = Desk -> Buyer { price(num 0 500) Ask }
Done = end
"""

# Every kind of thing: extra seats, both, end, three kinds of range, one and two handed seats,
# and states (Lost, Gone) that nobody can come to.
FAIR = """script Fair
parties Ann Bob Cid
seat Key of Cid
seat Cup of Ann
seat Hat of Bob
start Open
Open = both Left Right
Left = Ann -> Bob { yes(flag)[Key, Cup] Left ; no(num -5 5, text 0, flag, text 255) LeftEnd }
Right = Hat -> Cup { go1()[Hat] RightEnd ; go2(num -1000000000 1000000000) Right ; go3() Right }
LeftEnd = end
RightEnd = end
Lost = Cid -> Hat { back() Open ; on() Gone }
Gone = end
"""


def octets(text):
    """The bytes of a text; a list of bytes stays as it is."""
    return list(text) if isinstance(text, (list, bytes)) else list(text.encode("latin-1"))


def row(text):
    numbers = octets(text)
    return [len(numbers)] + numbers


def load(text):
    return [LOAD] + row(text)


def find(text):
    return [FIND] + row(text)


def split(flat):
    """The answers, one list a call."""
    told = []
    at = 0
    while at < len(flat):
        told.append(flat[at + 1:at + 1 + flat[at]])
        assert len(told[-1]) == flat[at]
        at += 1 + flat[at]
    return told


def ask(*calls):
    """What each of these calls on one new object answers."""
    told = split(answers([number for call in calls for number in call]))
    assert len(told) == len(calls)
    return told


def ask_of(script, *calls):
    """What each of these calls answers once the script is loaded."""
    told = ask(load(script), *calls)
    assert told[0] == [1], told[0]
    return told[1:]


def fault(text):
    """The code and place of a text's fault, None if it is a script."""
    told = ask(load(text))[0]
    if told == [1]:
        return None
    assert told[0] == 0 and len(told) == 3, told
    return tuple(told[1:])


def shown(script):
    """The one form of a script."""
    told = ask_of(script, [SHOW])[0]
    assert told[0] == len(told) - 1
    return bytes(told[1:]).decode("latin-1")


def talk(branches, title="A", parties="P Q", seats="", rest=""):
    """A script with one talk S that has these branches."""
    return f"script {title} parties {parties} {seats} start S S = P -> Q {{ {branches} }} {rest}"


def some_range(dice):
    low = dice.randint(-9, 9)
    return dice.choice(["flag", f"num {low} {low + dice.randint(0, 9)}", f"text {dice.randint(0, 255)}"])


def some_branch(dice, number, extras, target):
    ranges = ",".join(some_range(dice) for turn in range(dice.choice([0, 0, 1, 2, 4])))
    handed = dice.sample(extras, min(len(extras), dice.choice([0, 0, 1, 2])))
    brackets = "[" + ",".join(handed) + "]" if handed else ""
    return f"b{number}({ranges}){brackets} s{target}"


def some_state(dice, number, count, seats, extras):
    kind = dice.choice(["end", "both", "talk", "talk", "talk"])
    if kind == "end" or (kind == "both" and number + 2 >= count):
        return f"s{number} = end"
    if kind == "both":
        first, second = dice.sample(range(number + 1, count), 2)
        return f"s{number} = both s{first} s{second}"
    sender, receiver = dice.sample(seats, 2)
    targets = [dice.randrange(count) for turn in range(dice.randint(1, 4))]
    branches = [some_branch(dice, turn, extras, target) for turn, target in enumerate(targets)]
    return f"s{number} = {sender} -> {receiver} {{ {';'.join(branches)} }}"


def some_text(dice):
    """A text that keeps to the grammar and to its names; a both's sides may share a state."""
    parties = [f"p{number}" for number in range(dice.randint(2, 4))]
    extras = [f"x{number}" for number in range(dice.randint(0, 3))]
    count = dice.randint(1, 9)
    lines = ["script T", "parties " + " ".join(parties)]
    lines += [f"seat {name} of {dice.choice(parties)}" for name in extras]
    lines += [f"start s{dice.randrange(count)}"]
    lines += [some_state(dice, number, count, parties + extras, extras) for number in range(count)]
    return dice.choice(["\n", " ", "\t # a remark = {\n"]).join(lines)


def some_scripts(seed, count):
    """Many scripts, the same ones each time."""
    dice = random.Random(seed)
    scripts = []
    while len(scripts) < count:
        text = some_text(dice)
        if fault(text) is None:
            scripts.append(text)
    return scripts
