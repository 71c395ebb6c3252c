"""The faults that lie behind the tokens: codes 3 to 11, their places and their order."""

import unittest

from tests.helper import SHOW, SIZES, TILL, ask, fault, load, shown, talk

RESERVED = ("script parties seat of start end both flag num text part stop send recv program for def if pick any set "
            "go true false").split()


def names(letter, count):
    return [f"{letter}{number}" for number in range(count)]


def parties(count):
    return "script A parties " + " ".join(names("P", count)) + " start S S = end"


def extra_seats(count):
    seats = " ".join(f"seat {name} of P" for name in names("X", count))
    return f"script A parties P {seats} start S S = end"


def states(count):
    return "script A parties P start S0 " + " ".join(f"{name} = end" for name in names("S", count))


def branches(count):
    return talk(" ; ".join(f"{name}() S" for name in names("b", count)))


def ranges(count):
    return talk("a(" + ", ".join(["flag"] * count) + ") S")


def handed(count):
    seats = " ".join(f"seat {name} of P" for name in names("X", 3))
    return talk("a()[" + ", ".join(names("X", count)) + "] S", seats=seats)


class FaultCase(unittest.TestCase):

    def at(self, code, text):
        """The text's fault is this one, at the place marked by ^ (which is taken out)."""
        self.assertEqual(text.count("^"), 1)
        self.assertEqual(fault(text.replace("^", "")), (code, text.index("^")), text)

    def well(self, text):
        self.assertIsNone(fault(text), text)


class Worked(FaultCase):

    def test_as_the_document_has_them(self):
        self.assertEqual(fault("script A parties P Q start S S = P -> Q { a() S"), (3, 47))
        self.assertEqual(fault("script A parties P Q start S S = P -> Q { a(num 3 2) S }"), (7, 50))
        self.assertEqual(fault("script A parties P Q start S S = P -> P { a() T }"), (8, 38))
        self.assertEqual(fault("script A parties P Q start S S = both T T T = end"), (11, 29))
        self.assertEqual(fault("script A-"), (2, 8))
        self.assertEqual(fault(""), (3, 0))


class Grammar(FaultCase):

    WHOLE = ("script A parties P Q seat X of P seat Y of Q start S S = P -> Q { a ( flag , num 1 2 , text 3 ) "
             "[ X , Y ] S ; b ( ) E } B = both E F E = end F = end").split()

    def test_the_whole_is_well(self):
        self.well(" ".join(self.WHOLE))
        self.well("\n".join(self.WHOLE))

    def test_a_text_that_ends_too_early(self):
        for count in range(len(self.WHOLE)):
            text = " ".join(self.WHOLE[:count])
            with self.subTest(text=text):
                if text.endswith(("}", "both E F", "= end")):
                    # Here a state is whole: only a name is missing.
                    self.assertEqual(fault(text)[0], 6)
                else:
                    self.assertEqual(fault(text), (3, len(text)))
                    self.assertEqual(fault(text + "  # more\n "), (3, len(text) + 10))

    def test_a_token_that_never_stands_there(self):
        """In the place of each token, one that no script has, is code 3."""
        for wrong in ["<-", "!", "?", "|", ":", '"a"', "part", "stop", "send", "true", "go", "script"]:
            for count in range(len(self.WHOLE)):
                if count == 0 and wrong == "script":
                    continue
                front = " ".join(self.WHOLE[:count] + [""]) if count else ""
                self.at(3, front + "^" + " ".join([wrong] + self.WHOLE[count + 1:]))

    def test_reserved_words_where_a_name_should_stand(self):
        self.assertEqual(len(RESERVED), 24)
        for word in RESERVED:
            with self.subTest(word=word):
                self.at(3, f"script ^{word} parties P start S S = end")
                self.at(3, f"script A parties ^{word} P start S S = end")
                self.at(3, f"script A parties P seat ^{word} of P start S S = end")
                self.at(3, f"script A parties P seat X of ^{word} start S S = end")
                self.at(3, f"script A parties P start ^{word} S = end")
                self.at(3, f"script A parties P start S ^{word} = end")
                self.at(3, f"script A parties P start S S = both ^{word} S")
                self.at(3, f"script A parties P start S S = both S ^{word}")
                self.at(3, f"script A parties P Q start S S = P -> ^{word} {{ a() S }}")
                self.at(3, talk(f"^{word}() S"))
                self.at(3, talk(f"a()[^{word}] S"))
                self.at(3, talk(f"a() ^{word}"))
                if word not in ("end", "both"):
                    self.at(3, f"script A parties P Q start S S = ^{word} -> Q {{ a() S }}")
                if word not in ("seat", "start"):
                    self.at(3, f"script A parties P ^{word} start S S = end")

    def test_words_that_are_nearly_reserved(self):
        for word in ["End", "SCRIPT", "Flag", "ends", "en", "true1", "Of", "types"]:
            self.well(f"script {word} parties {word} Q start {word} {word} = {word} -> Q {{ {word}() {word} }}")

    def test_what_the_grammar_does_not_allow(self):
        self.at(3, "^A script A")
        self.at(3, "script A parties ^start S S = end")
        self.at(3, "script A parties P ^= start S S = end")
        self.at(3, "script A parties P^, Q start S S = end")
        self.at(3, "script A parties P ^parties Q start S S = end")
        self.at(3, "script A parties P start S S = end ^end")
        self.at(3, "script A parties P start S S = end ^}")
        self.at(3, "script A parties P start S S = end T ^end")
        self.at(3, "script A parties P start S S = end ^seat X of P")
        self.at(3, "script A parties P start S T ^S = end")
        self.at(3, "script A parties P Q start S S = P ^= Q")
        self.at(3, "script A parties P Q start S S = both S S ^{")

    def test_branches(self):
        self.at(3, "script A parties P Q start S S = P -> Q {^}")
        self.at(3, "script A parties P Q start S S = P -> Q { a() S ;^}")
        self.at(3, talk("^; a() S"))
        self.at(3, talk("a() S ^, b() S"))
        self.at(3, talk("a() S ^b() S"))
        self.at(3, talk("a ^S"))
        self.at(3, talk("a() ^; b() S"))
        self.at(3, talk("a() ^(flag) S"))

    def test_ranges(self):
        self.at(3, talk("a(^, flag) S"))
        self.at(3, talk("a(flag, ^) S"))
        self.at(3, talk("a(flag ^flag) S"))
        self.at(3, talk("a(flag^; flag) S"))
        self.at(3, talk("a(^x) S"))
        self.at(3, talk("a(flag ^1) S"))
        self.at(3, talk("a(num 1^) S"))
        self.at(3, talk("a(num ^x 1) S"))
        self.at(3, talk("a(num 1 2 ^3) S"))
        self.at(3, talk("a(num 1^, 2) S"))
        self.at(3, talk("a(text^) S"))
        self.at(3, talk("a(text 1 ^2) S"))
        self.at(3, talk("a(^1) S"))

    def test_handed_seats(self):
        seats = "seat X of P seat Y of P"
        self.well(talk("a()[X] S", seats=seats))
        self.well(talk("a()[X, Y] S", seats=seats))
        self.at(3, talk("a()[^] S", seats=seats))
        self.at(3, talk("a()[X, ^] S", seats=seats))
        self.at(3, talk("a()[X ^Y] S", seats=seats))
        self.at(3, talk("a()[X^; Y] S", seats=seats))
        self.at(3, talk("a()[X] ^[Y] S", seats=seats))
        self.at(3, talk("a^[X]() S", seats=seats))
        self.at(3, talk("a() S ^[X]", seats=seats))


class OneTooMany(FaultCase):

    def test_as_many_as_may_be(self):
        for text in [parties(8), extra_seats(8), states(64), branches(8), ranges(4), handed(2), ranges(0), parties(1)]:
            self.well(text)

    def test_one_too_many(self):
        self.at(4, parties(9).replace("P8", "^P8"))
        self.at(4, "^seat X8".join(extra_seats(9).split("seat X8")))
        self.at(4, states(65).replace("S64", "^S64"))
        self.at(4, branches(9).replace("b8", "^b8"))
        self.at(4, talk("a(flag, flag, flag, flag, ^flag) S"))
        self.at(4, talk("a(flag, num 1 2, text 3, flag, ^num 1 2) S"))
        self.at(4, talk("a(flag, num 1 2, text 3, flag, ^text 1) S"))
        self.at(4, handed(3).replace("X2]", "^X2]"))

    def test_only_the_first_token_matters(self):
        """What follows the first token of a thing too many is not looked at."""
        self.at(4, extra_seats(8).replace("start", "^seat 5 start"))
        self.at(4, states(64) + " ^T 5")
        self.at(4, branches(8).replace("}", "; ^c 5"))
        self.at(4, talk("a(flag, flag, flag, flag, ^num 3 2) S"))
        self.at(4, handed(2).replace("]", ", ^P 5"))

    def test_what_the_grammar_would_not_allow_either(self):
        self.at(3, parties(8).replace("start", "^5 start"))
        self.at(3, parties(8).replace("start", "^of start"))
        self.at(3, extra_seats(8).replace("start", "^of start"))
        self.at(3, states(64) + " ^end")
        self.at(3, states(64) + " ^=")
        self.at(3, branches(8).replace("}", "; ^}"))
        self.at(3, branches(8).replace("}", "^c() S }"))
        self.at(3, branches(8).replace("}", "; ^end() S }"))
        self.at(3, talk("a(flag, flag, flag, flag, ^) S"))
        self.at(3, talk("a(flag, flag, flag, flag, ^5) S"))
        self.at(3, talk("a(flag, flag, flag, flag ^flag) S"))
        self.at(3, handed(2).replace("]", ", ^]"))
        self.at(3, handed(2).replace("]", " ^X2]"))
        self.at(3, handed(2).replace("]", ", ^5]"))

    def test_each_state_has_its_own_branches(self):
        self.well(branches(8) + "T = Q -> P { " + " ; ".join(f"{name}(flag) S" for name in names("b", 8)) + " }")


class Bounds(FaultCase):

    def test_num(self):
        self.well(talk("a(num 0 0, num -1 0, num -1000000000 1000000000, num -3 -3) S"))
        self.at(7, talk("a(num 0 ^-1) S"))
        self.at(7, talk("a(num 1000000000 ^-1000000000) S"))
        self.at(7, talk("a(num -3 ^-4) S"))
        self.at(7, talk("a(num 1^-2) S"))

    def test_text(self):
        self.well(talk("a(text 0, text 255) S"))
        self.at(7, talk("a(text ^256) S"))
        self.at(7, talk("a(text ^-1) S"))
        self.at(7, talk("a(text ^1000000000) S"))

    def test_both_numbers_are_read_first(self):
        self.at(3, talk("a(num 3 ^x) S"))
        self.at(3, talk("a(num 3^) S"))


class Names(FaultCase):

    def test_parties(self):
        self.at(5, "script A parties P Q ^P Q start S S = end")
        self.well("script A parties P p start S S = end")

    def test_extra_seats(self):
        self.at(5, "script A parties P Q seat ^Q of P start S S = end")
        self.at(5, "script A parties P seat X of P seat ^X of P start S S = end")
        self.at(5, "script A parties P seat ^P of X start S S = end")
        self.at(6, "script A parties P seat X of ^X start S S = end")
        self.at(6, "script A parties P seat X of P seat Y of ^X start S S = end")
        self.at(6, "script A parties P seat X of ^Z seat X of P start S S = end")

    def test_start(self):
        self.at(6, "script A parties P start ^T S = end")
        self.at(6, "script A parties P start ^P S = end")

    def test_states(self):
        self.at(5, "script A parties P start S S = end ^S = end")
        self.at(5, "script A parties P start S S = end T = end ^S = both U V")
        self.at(6, "script A parties P start S S = both ^T U")
        self.at(6, "script A parties P start S S = both S ^U")
        self.at(6, "script A parties P start S S = both ^P A")

    def test_talks(self):
        self.at(6, "script A parties P Q start S S = ^S -> Q { a() S }")
        self.at(6, "script A parties P Q start S S = P -> ^S { a() S }")
        self.at(6, "script A parties P Q start S S = ^Z -> Z { a() S }")
        self.at(8, "script A parties P Q start S S = P -> ^P { a() S }")
        self.at(8, "script A parties P seat X of P start S S = X -> ^X { a() S }")
        self.well("script A parties P seat X of P start S S = P -> X { a() S }")
        self.well("script A parties P seat X of P seat Y of P start S S = X -> Y { a() S }")

    def test_branches(self):
        self.at(5, talk("a() S ; b() S ; ^a() S"))
        self.at(5, talk("a() S ; ^a()[Z] T"))
        self.at(6, talk("a() ^T"))
        self.at(6, talk("a() ^P"))
        self.at(6, talk("a() ^T ; a() S"))

    def test_handed_seats(self):
        seats = "seat X of P seat Y of Q"
        self.well(talk("a()[Y, X] S ; b()[X] S ; c()[X, Y] S", seats=seats))
        self.at(6, talk("a()[^Z] T", seats=seats))
        self.at(6, talk("a()[X, ^S] T", seats=seats))
        self.at(9, talk("a()[^P] T", seats=seats))
        self.at(9, talk("a()[X, ^Q] T", seats=seats))
        self.at(9, talk("a()[^P, P] T", seats=seats))
        self.at(5, talk("a()[X, ^X] T", seats=seats))
        self.at(6, talk("a()[^Z, Z] T", seats=seats))
        self.at(6, talk("a()[X, Y] ^T", seats=seats))

    def test_names_that_do_not_stand_in_ones_way(self):
        self.well("script P parties P Q seat X of P start P P = P -> X { P()[X] Q ; Q() P ; X() X } Q = end X = end")

    def test_a_name_may_stand_ahead_of_its_state(self):
        self.well("script A parties P Q start Z S = P -> Q { a() Z } B = both T U T = end U = end Z = end")


class Sides(FaultCase):

    def test_shared(self):
        head = "script A parties P Q start S "
        self.at(11, head + "^S = both S S")
        self.at(11, head + "^S = both S T T = end")
        self.at(11, head + "^S = both T S T = end")
        self.at(11, head + "^S = both T U T = P -> Q { a() U } U = end")
        self.at(11, head + "^S = both T U U = P -> Q { a() U ; b() T } T = end")
        self.at(11, head + "^S = both T U T = P -> Q { a() E } U = P -> Q { a() E } E = end")
        self.at(11, head + "^S = both T U T = P -> Q { a() S } U = end")
        self.at(11, head + "S = both T U ^T = both V V U = end V = end")
        self.at(11, head + "S = end T = end ^B = both T T")
        self.at(11, head + "^S = both T U T = both V W U = both W X V = end W = end X = end")

    def test_not_shared(self):
        head = "script A parties P Q start S "
        self.well(head + "S = both T U T = P -> Q { a() T } U = P -> Q { a() U }")
        self.well(head + "S = both T U T = end U = end V = P -> Q { a() T ; b() U ; c() S }")
        self.well(head + "S = both T U T = both V W U = both X Y V = end W = end X = end Y = end")
        self.well(head + "S = P -> Q { a() B ; b() C } B = both E F C = both E F E = end F = end")

    def test_the_first_of_several(self):
        self.at(11, "script A parties P start S T = both U V ^S = both U U U = end V = end W = both V V")


class Order(FaultCase):

    def test_tokens_come_before_the_grammar(self):
        self.at(2, "script = = = ^-")
        self.at(2, "A " * 100 + "^00")
        self.at(2, talk("a(num 3 2) S ; a() T", rest="^@"))

    def test_3_4_and_7_in_the_order_of_the_text(self):
        self.at(7, talk("a(num 3 ^2) S ; ; "))
        self.at(3, talk("a() S ; ^; b(num 3 2) S"))
        self.at(7, talk("a(flag, flag, flag, text ^256, flag) S"))
        self.at(4, talk("a(flag, flag, flag, flag, ^flag, num 3 2) S = ="))
        self.at(3, parties(9).replace("A", "^="))
        self.at(4, parties(9).replace("P8", "^P8") + " = = =")
        self.at(7, talk("a(text ^999, num 3 2) S"))

    def test_the_grammar_comes_before_names(self):
        self.at(3, "script A parties P P start S S = ^=")
        self.at(4, "script A parties P P P P P P P P ^P start S S = end")
        self.at(7, "script A parties P P start T S = P -> P { a(num 3 ^2) U }")

    def test_names_in_the_order_of_the_text(self):
        self.at(8, "script A parties P Q start S S = P -> ^P { a() T }")
        self.at(6, "script A parties P Q start ^T S = P -> P { a() U }")
        self.at(5, "script A parties P ^P seat P of Z start T S = end")
        self.at(6, "script A parties P Q seat X of ^Z start T S = end S = end")
        self.at(6, "script A parties P Q start S S = P -> Q { a() ^T ; a() S } S = end")
        self.at(5, "script A parties P Q start S S = end ^S = P -> P { a() T }")
        self.at(9, talk("a()[^P] T ; a() S"))
        self.at(6, talk("a()[^Z] S ; b()[P] S"))

    def test_names_come_before_sides(self):
        self.at(6, "script A parties P start S S = both S S T = both ^U S")
        self.at(5, "script A parties P start S S = both S S ^S = end")


class OneFormTooLong(FaultCase):

    def text(self, length):
        """A text without needless blanks, whose one form has this length."""
        labels = ";".join(f"{name}(flag,flag)S0" for name in names("b", 8))
        text = "script A parties P Q start S0 " + "".join(f"S{number}=P->Q{{{labels}}}" for number in range(20))
        missing = length - len(shown(text))
        count = 0
        while missing > 0:
            # An end's line has 7 bytes and its name; the last name takes what is left over.
            size = missing if missing <= 23 else min(23, missing - 11)
            text += f"E{count:03d}".ljust(size - 7, "e") + "=end "
            missing -= size
            count += 1
        return text

    def test_just_4096(self):
        text = self.text(4096)
        self.assertLess(len(text), 4096)
        form = shown(text)
        self.assertEqual(len(form), 4096)
        self.assertEqual(shown(form), form)

    def test_more(self):
        for length in [4097, 4098, 4200]:
            text = self.text(length)
            self.assertLess(len(text), 4096)
            self.assertEqual(fault(text), (10, 0))

    def test_it_comes_last(self):
        text = self.text(4097)
        self.at(11, text + "^B = both S0 S0")
        self.at(6, text + "B = both S0 ^U")
        self.assertEqual(fault(text + "B = both S0"), (3, len(text) + 11))

    def test_long_text_with_a_short_form(self):
        self.assertEqual(shown(TILL + "#" + "x" * (4095 - len(TILL))), TILL)


class HeldStays(unittest.TestCase):

    def test_a_fault_leaves_the_script_as_it_was(self):
        for text in ["", "-", "script A parties P P start S S = end", "script A parties P start S S = both S S",
                     "script A", " " * 4097, talk("a(num 3 2) S")]:
            told = ask(load(TILL), [SIZES], [SHOW], load(text), [SIZES], [SHOW])
            self.assertEqual(told[3][0], 0)
            self.assertEqual(told[1:3], told[4:6])

    def test_a_fault_holds_nothing(self):
        self.assertEqual(ask(load("script A"), [SIZES]), [[0, 3, 8], [-1]])

    def test_the_latest_script_is_held(self):
        told = ask(load(TILL), load("script A parties P start S S = end"), [SIZES])
        self.assertEqual(told, [[1], [1], [1, 0, 1, 0, 0]])
