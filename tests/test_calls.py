"""What the calls 0 to 8 answer, and what they refuse."""

import unittest

from tests.helper import (BRANCH, FAIR, FAR, REACH, ROUTE, SEAT, SHOW, SIZES, STATE, TILL, ask, ask_of, find, load,
                          octets, row, talk)


class Till(unittest.TestCase):
    """The document's worked script."""

    def test_load_whatever_its_blanks(self):
        for text in [TILL, TILL.replace("\n", " "), TILL.replace(" ", "\n"), TILL.replace(" { ", "{"),
                     TILL.replace("\n", "\t\t# one more\n")]:
            self.assertEqual(ask(load(text), [SHOW]), [[1], row(TILL)])

    def test_sizes(self):
        self.assertEqual(ask_of(TILL, [SIZES]), [[3, 1, 4, 0, 4]])

    def test_seat(self):
        self.assertEqual(ask_of(TILL, [SEAT, 3]), [[1, 4, 68, 101, 115, 107]])
        self.assertEqual(ask_of(TILL, [SEAT, 0], [SEAT, 1], [SEAT, 2]),
                         [[0] + row("Buyer"), [1] + row("Shop"), [2] + row("Clerk")])

    def test_state(self):
        self.assertEqual(ask_of(TILL, [STATE, 0], [STATE, 1], [STATE, 2], [STATE, 3]),
                         [[1, 0, 3, 2] + row("Ask"), [1, 1, 2, 1] + row("Pass"), [1, 3, 0, 1] + row("Pay"),
                          [0] + row("Done")])

    def test_branch(self):
        self.assertEqual(ask_of(TILL, [BRANCH, 0, 0], [BRANCH, 0, 1], [BRANCH, 1, 0], [BRANCH, 2, 0]),
                         [[1, 2, 2, 20, 1, 1, 9, 0] + row("want"), [3, 0, 0] + row("bye"),
                          [2, 0, 1, 3] + row("take"), [0, 1, 1, 0, 500, 0] + row("price")])

    def test_find(self):
        self.assertEqual(ask_of(TILL, find("Ask"), find("Pass"), find("Pay"), find("Done")), [[0], [1], [2], [3]])

    def test_reach(self):
        self.assertEqual(ask_of(TILL, [REACH, 0], [REACH, 1], [REACH, 2], [REACH, 3]),
                         [[4, 0, 1, 3, 2], [4, 1, 2, 0, 3], [4, 2, 0, 1, 3], [1, 3]])

    def test_route(self):
        self.assertEqual(ask_of(TILL, [ROUTE, 0], [ROUTE, 1], [ROUTE, 2], [ROUTE, 3]),
                         [[0], [1, 0, 0], [2, 0, 0, 1, 0], [1, 0, 1]])


class Fair(unittest.TestCase):
    """Extra seats, both, three kinds of range, handed seats, states that nobody can come to."""

    def test_show(self):
        self.assertEqual(ask_of(FAIR, [SHOW]), [row(FAIR)])
        self.assertEqual(ask_of(FAIR.replace(", ", ",").replace("\n", " "), [SHOW]), [row(FAIR)])

    def test_sizes(self):
        self.assertEqual(ask_of(FAIR, [SIZES]), [[3, 3, 7, 0, 7]])

    def test_seats(self):
        self.assertEqual(ask_of(FAIR, [SEAT, 2], [SEAT, 3], [SEAT, 4], [SEAT, 5]),
                         [[2] + row("Cid"), [2] + row("Key"), [0] + row("Cup"), [1] + row("Hat")])

    def test_states(self):
        self.assertEqual(ask_of(FAIR, [STATE, 0], [STATE, 1], [STATE, 2], [STATE, 4], [STATE, 5]),
                         [[2, 1, 2] + row("Open"), [1, 0, 1, 2] + row("Left"), [1, 5, 4, 3] + row("Right"),
                          [0] + row("RightEnd"), [1, 2, 5, 2] + row("Lost")])

    def test_branches(self):
        self.assertEqual(ask_of(FAIR, [BRANCH, 1, 0], [BRANCH, 1, 1], [BRANCH, 2, 0], [BRANCH, 2, 1], [BRANCH, 2, 2]),
                         [[1, 1, 0, 2, 3, 4] + row("yes"), [3, 4, 1, -5, 5, 2, 0, 0, 2, 255, 0] + row("no"),
                          [4, 0, 1, 5] + row("go1"), [2, 1, 1, -1000000000, 1000000000, 0] + row("go2"),
                          [2, 0, 0] + row("go3")])

    def test_reach(self):
        self.assertEqual(ask_of(FAIR, [REACH, 0], [REACH, 2], [REACH, 5], [REACH, 6]),
                         [[5, 0, 1, 2, 3, 4], [2, 2, 4], [7, 5, 0, 6, 1, 2, 3, 4], [1, 6]])

    def test_routes(self):
        self.assertEqual(ask_of(FAIR, *[[ROUTE, number] for number in range(7)]),
                         [[0], [1, 0, 0], [1, 0, 1], [2, 0, 0, 1, 1], [2, 0, 1, 2, 0], [-4], [-4]])

    def test_handed_seats_keep_their_order(self):
        self.assertEqual(ask_of(FAIR.replace("[Key, Cup]", "[Cup, Key]"), [BRANCH, 1, 0]),
                         [[1, 1, 0, 2, 4, 3] + row("yes")])


class Starts(unittest.TestCase):

    LATE = "script A parties P Q start T S = P -> Q { a() U } T = P -> Q { b() T ; c() U ; d() U ; e() T } U = end"

    def test_the_start_state_may_stand_anywhere(self):
        self.assertEqual(ask_of(self.LATE, [SIZES]), [[2, 0, 3, 1, 5]])
        self.assertEqual(ask_of(self.LATE, [REACH, 0], [REACH, 1]), [[2, 0, 2], [2, 1, 2]])

    def test_the_least_step_that_leads_there(self):
        self.assertEqual(ask_of(self.LATE, [ROUTE, 0], [ROUTE, 1], [ROUTE, 2]), [[-4], [0], [1, 1, 1]])

    def test_the_state_that_is_gone_along_first(self):
        """E can be come to by C and by B; C stands in the list ahead of B."""
        text = ("script A parties P Q start S S = P -> Q { a() C ; b() B } B = P -> Q { a() E } "
                "C = P -> Q { a() C ; b() E } E = end")
        self.assertEqual(ask_of(text, [REACH, 0], [ROUTE, 3]), [[4, 0, 2, 1, 3], [2, 0, 0, 2, 1]])

    def test_as_large_as_may_be(self):
        states = " ".join(f"s{number}=P->Q{{a()s{number + 1}}}" for number in range(63)) + " s63=end"
        told = ask_of("script A parties P Q start s0 " + states, [SIZES], [REACH, 0], [ROUTE, 63], [REACH, 63])
        self.assertEqual(told[0], [2, 0, 64, 0, 63])
        self.assertEqual(told[1], [64] + list(range(64)))
        self.assertEqual(told[2], [63] + [part for number in range(63) for part in (number, 0)])
        self.assertEqual(told[3], [1, 63])

    def test_most_of_all(self):
        parties = " ".join(f"P{number}" for number in range(8))
        seats = " ".join(f"seat X{number} of P{7 - number}" for number in range(8))
        branches = ";".join(f"b{number}()[X{number}]S" for number in range(8))
        text = f"script A parties {parties} {seats} start S S=P0->X7{{{branches}}}"
        told = ask_of(text, [SIZES], [SEAT, 15], [SEAT, 16], [STATE, 0], [BRANCH, 0, 7], [BRANCH, 0, 8])
        self.assertEqual(told, [[8, 8, 1, 0, 8], [0] + row("X7"), [-2], [1, 0, 15, 8] + row("S"),
                                [0, 0, 1, 15] + row("b7"), [-2]])


class Finds(unittest.TestCase):

    def test_just_these_bytes(self):
        for text in ["", "A", "ask", "ASK", "Ask ", " Ask", "Aski", "Pa", "Buyer", "Desk", "Till", "want", "end",
                     "Ask\n", [0], [255] * 8192, octets("Ask") * 2000, [65, 115, 107, 0]]:
            self.assertEqual(ask_of(TILL, find(text)), [[-9]])

    def test_names_of_16_bytes(self):
        text = "script A parties P start aaaaaaaaaaaaaaab aaaaaaaaaaaaaaaa = end aaaaaaaaaaaaaaab = end"
        self.assertEqual(ask_of(text, find("a" * 15 + "b"), find("a" * 16), find("a" * 15), find("a" * 17)),
                         [[1], [0], [-9], [-9]])

    def test_a_state_named_like_a_party(self):
        text = "script P parties P Q start Q P = end Q = P -> Q { P() P }"
        self.assertEqual(ask_of(text, find("Q"), find("P")), [[1], [0]])


class Refusals(unittest.TestCase):

    ALL = [[SHOW], [SIZES], [SEAT, 0], [STATE, 0], [BRANCH, 0, 0], find("Ask"), [REACH, 0], [ROUTE, 0]]
    OUTSIDE = [[SEAT, FAR], [SEAT, -FAR], [STATE, FAR], [STATE, -FAR], [BRANCH, FAR, -FAR], [BRANCH, -FAR, FAR],
               find(""), find("a" * 8192), [REACH, FAR], [REACH, -FAR], [ROUTE, FAR], [ROUTE, -FAR]]

    def test_no_script(self):
        for call in self.ALL + self.OUTSIDE:
            with self.subTest(call=call[:3]):
                self.assertEqual(ask(call), [[-1]])
                self.assertEqual(ask(load("no script"), call), [[0, 3, 0], [-1]])

    def test_no_such_seat(self):
        for number in [-FAR, -2, -1, 4, 5, FAR]:
            self.assertEqual(ask_of(TILL, [SEAT, number]), [[-2]])
        self.assertEqual(ask_of(TILL, [SEAT, 3])[0][0], 1)

    def test_no_such_state(self):
        for call in (STATE, REACH, ROUTE):
            for number in [-FAR, -4, -1, 4, FAR]:
                self.assertEqual(ask_of(TILL, [call, number]), [[-2]])
            self.assertGreaterEqual(ask_of(TILL, [call, 3])[0][0], 0)
            self.assertGreaterEqual(ask_of(TILL, [call, 0])[0][0], 0)

    def test_no_such_branch(self):
        for state, branch in [(-FAR, 0), (-1, 0), (4, 0), (FAR, 0), (0, -FAR), (0, -1), (0, 2), (0, FAR), (3, 0),
                              (3, -1), (1, 1), (FAR, FAR), (-FAR, -FAR)]:
            self.assertEqual(ask_of(TILL, [BRANCH, state, branch]), [[-2]])
        self.assertEqual(ask_of(FAIR, [BRANCH, 0, 0], [BRANCH, 0, 1], [BRANCH, 0, 2]), [[-2]] * 3)

    def test_not_reached_from_the_start(self):
        text = talk("a() S", rest="T = P -> Q { a() S ; b() U } U = end")
        self.assertEqual(ask_of(text, [ROUTE, 0], [ROUTE, 1], [ROUTE, 2], [ROUTE, 3], [ROUTE, -1]),
                         [[0], [-4], [-4], [-2], [-2]])
        self.assertEqual(ask_of(text, [REACH, 1]), [[3, 1, 0, 2]])

    def test_a_refusal_changes_nothing(self):
        before = ask_of(TILL, *self.ALL)
        self.assertEqual(ask_of(TILL, *(self.OUTSIDE + self.ALL))[len(self.OUTSIDE):], before)
