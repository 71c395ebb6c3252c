"""The promises 1 and 3 over many scripts."""

import re
import unittest

from tests.helper import (BRANCH, FAIR, NEST, REACH, ROUTE, SEAT, SHOW, SIZES, STATE, TIDY, TILL, ask_of, row, shown,
                          some_scripts, woven_scripts)


def told_things(script, *front):
    """All that the calls tell of a script behind these calls, but its one form."""
    states = ask_of(script, *front, [SIZES])[-1][2]
    calls = [[SIZES]] + [[SEAT, number] for number in range(16)]
    calls += [[call, number] for call in (STATE, REACH, ROUTE) for number in range(states + 1)]
    branches = [[BRANCH, state, branch] for state in range(states) for branch in range(5)]
    return ask_of(script, *front, *calls)[len(front):] + ask_of(script, *front, *branches)[len(front):]


class Promise1(unittest.TestCase):

    LINE = re.compile(r"[A-Za-z][A-Za-z0-9]*( [^\s]+)+")

    def test_the_one_form_loaded_again_shows_itself(self):
        for script in some_scripts(1, 300) + woven_scripts(1, 30) + [TILL, FAIR, NEST]:
            form = shown(script)
            self.assertEqual(shown(form), form)

    def test_the_one_form_is_the_same_script(self):
        for script in some_scripts(11, 60) + woven_scripts(11, 30) + [TILL, FAIR, NEST]:
            self.assertEqual(told_things(shown(script)), told_things(script))

    def test_what_tidy_leaves_held(self):
        """Its one form is a script again, the same one."""
        for script in some_scripts(14, 60) + woven_scripts(14, 30) + [TILL, FAIR, NEST]:
            form = bytes(ask_of(script, [TIDY], [SHOW])[1][1:]).decode("latin-1")
            self.assertEqual(shown(form), form)
            self.assertEqual(told_things(form), told_things(script, [TIDY]))

    def test_nothing_but_blanks_is_gone(self):
        """Without blanks and remarks, the text and its one form are the same bytes."""
        for script in some_scripts(12, 300):
            bare = re.sub(r"#[^\n]*", "", script)
            self.assertEqual(re.sub(r"\s", "", shown(script)), re.sub(r"\s", "", bare))

    def test_its_lines(self):
        for script in some_scripts(13, 200):
            form = shown(script)
            parties, seats, states = ask_of(script, [SIZES])[0][:3]
            self.assertTrue(form.endswith("\n"))
            lines = form[:-1].split("\n")
            self.assertEqual(len(lines), 3 + seats + states)
            self.assertEqual(len(lines[1].split(" ")), 1 + parties)
            for line in lines:
                self.assertIsNotNone(self.LINE.fullmatch(line), line)

    def test_every_kind_of_line(self):
        text = ("script T1 parties Ann Bob#x\nseat Key of Bob seat Cup\tof Ann start z z=both y w "
                "y=Ann->Key{a(num -1 0,text 255,flag,num 7 7)[Key,Cup]y;b ( )[ Cup ] y;c()y}w=end")
        form = ("script T1\nparties Ann Bob\nseat Key of Bob\nseat Cup of Ann\nstart z\nz = both y w\n"
                "y = Ann -> Key { a(num -1 0, text 255, flag, num 7 7)[Key, Cup] y ; b()[Cup] y ; c() y }\nw = end\n")
        self.assertEqual(ask_of(text, [SHOW]), [row(form)])


def steps_of(script, count, *front):
    """For each state the states behind it, by the calls state and branch behind these calls."""
    states = ask_of(script, *front, *[[STATE, number] for number in range(count)])[len(front):]
    steps = [told[1:3] if told[0] == 2 else [] for told in states]
    places = [(number, branch) for number, told in enumerate(states) if told[0] == 1 for branch in range(told[3])]
    told = ask_of(script, *front, *[[BRANCH, number, branch] for number, branch in places])[len(front):]
    for place, answer in zip(places, told):
        steps[place[0]].append(answer[0])
    return steps


def distances(steps, start):
    """How many steps at least lead to each state that can be come to: found by rounds over all the steps."""
    far = {start: 0}
    for turn in steps:
        for state, behind in enumerate(steps):
            for other in behind:
                if state in far and far.get(other, len(steps)) > far[state] + 1:
                    far[other] = far[state] + 1
    return far


class Promise3(unittest.TestCase):

    def test_routes(self):
        answers = []
        for script in some_scripts(3, 300) + woven_scripts(3, 30) + [TILL, FAIR, NEST]:
            answers += self.checked_routes(script)
        self.assertGreater(len(answers) - answers.count(-4), 500)
        self.assertGreater(answers.count(-4), 200)

    def test_routes_in_what_tidy_leaves_held(self):
        answers = []
        for script in some_scripts(33, 100) + woven_scripts(33, 30) + [TILL, FAIR, NEST]:
            answers += self.checked_routes(script, [TIDY])
        self.assertNotIn(-4, answers)

    def checked_routes(self, script, *front):
        """The first number that each route's answer has; each is looked at beside the steps."""
        count, start = ask_of(script, *front, [SIZES])[-1][2:4]
        steps = steps_of(script, count, *front)
        far = distances(steps, start)
        met = ask_of(script, *front, [REACH, start])[-1][1:]
        answers = ask_of(script, *front, *[[ROUTE, number] for number in range(count)])[len(front):]
        for number, told in enumerate(answers):
            self.assertEqual(number in met, number in far)
            if number in met:
                self.assertEqual(told[0], far[number])
                self.assertEqual(self.walk(steps, start, told), number)
            else:
                self.assertEqual(told, [-4])
        return [told[0] for told in answers]

    def walk(self, steps, start, told):
        """Where the told route leads, each step being one from where the one before has led."""
        self.assertEqual(len(told), 1 + 2 * told[0])
        here = start
        for state, step in zip(told[1::2], told[2::2]):
            self.assertEqual(state, here)
            self.assertIn(step, range(len(steps[state])))
            self.assertEqual(steps[state].index(steps[state][step]), step)
            here = steps[state][step]
        return here

    def test_the_route_goes_by_the_states_that_were_met_first(self):
        """A state's last step begins at the earliest state of the list that leads to it."""
        for script in some_scripts(31, 200):
            count, start = ask_of(script, [SIZES])[0][2:4]
            steps = steps_of(script, count)
            met = ask_of(script, [REACH, start])[0][1:]
            for number in met[1:]:
                told = ask_of(script, [ROUTE, number])[0]
                self.assertEqual(told[-2], [state for state in met if number in steps[state]][0])

    def test_reach(self):
        for script in some_scripts(32, 200):
            count = ask_of(script, [SIZES])[0][2]
            steps = steps_of(script, count)
            for number, told in enumerate(ask_of(script, *[[REACH, number] for number in range(count)])):
                far = distances(steps, number)
                self.assertEqual(told[0], len(told) - 1)
                self.assertEqual(sorted(told[1:]), sorted(far))
                self.assertEqual([far[other] for other in told[1:]], sorted(far.values()))
                self.assertEqual(told[1:], self.met(steps, number))

    def met(self, steps, number):
        """The list of states met, made by always looking for the first state of it with one missing behind it."""
        met = [number]
        while True:
            missing = [other for state in met for other in steps[state] if other not in met]
            if not missing:
                return met
            met.append(missing[0])

    def test_there_are_scripts_of_all_kinds(self):
        kinds = set()
        for script in some_scripts(3, 200):
            count = ask_of(script, [SIZES])[0][2]
            kinds |= {told[0] for told in ask_of(script, *[[STATE, number] for number in range(count)])}
        self.assertEqual(kinds, {0, 1, 2})
