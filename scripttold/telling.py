"""A script told aloud, option by option."""

from scripttold.script import TALK

MOST_TOLD = 1000


# A both never comes back to itself, so there is an end to its sides.
def talks_come_to(states, first):
    talks = []
    waiting = [first]
    while len(waiting) > 0:
        number = waiting.pop()
        if states[number].kind == TALK:
            talks.append(number)
        # The last one waiting is taken next, and all of the first side comes before the second.
        waiting.extend(list(reversed(states[number].sides)))
    return talks


# An option is a tuple, a state's number and a branch's. Behind each option of the log stand, in earlier, the talks as
# they were before it: taken back, it leaves no trace.
class Telling:
    def __init__(self, script):
        self.states = script.states
        self.standing = talks_come_to(script.states, script.start_state)
        self.log = []
        self.earlier = []

    def options(self):
        found = []
        for number in self.standing:
            found.extend([(number, branch) for branch in range(len(self.states[number].branches))])
        return found

    def is_full(self):
        return len(self.log) == MOST_TOLD

    # The talks become a new list, so that the one kept in earlier stays as it was.
    def tell(self, option):
        place = self.standing.index(option[0])
        behind = self.states[option[0]].branches[option[1]].behind
        self.earlier.append(self.standing)
        self.standing = self.standing[:place] + talks_come_to(self.states, behind) + self.standing[place + 1:]
        self.log.append(option)

    def take_back(self):
        self.log.pop()
        self.standing = self.earlier.pop()

    def tell_along(self, numbers):
        count = 0
        for number in numbers:
            options = self.options()
            if len(options) == 0 or self.is_full():
                break
            self.tell(options[number % len(options)])
            count += 1
        return count
