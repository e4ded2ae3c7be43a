"""[12.2], [12.3]: the desk, its rows and answers, what is no row, and what is refused first."""

import unittest
from math import gcd

from farbetween import errors
from farbetween.alike import least
from farbetween.apart import apart, distance
from farbetween.depths import apart_to
from farbetween.desk import Desk
from farbetween.shares import Share
from farbetween.texts import show
from farbetween.words import chance, farthest_word
from tests.helper import FORTY, Dice, anything, plain, some_machine

HALF = Share(1, 2)
TWELVE = "12" + "".join(f" / {at} a " + " ".join(str(int(to == at + 1)) for to in range(12)) for at in range(11))
ASKING = [
    "show p", "show w", "first p", "first w", "least p", "least w", "text w", "drift p", "drift w", "apart p q", "table p w",
    "depth 3 p q", "alike p q", "chance p a,a", "word 3 p q", "parts", "wholes",
]
NUMBERED = ["depth", "word"]
OF_ONE_NAME = ["show", "first", "least", "text", "drift"]
OF_TWO_NAMES = ["apart", "table", "alike"]


def table_text(table):
    return " / ".join(" ".join(str(share) for share in row) for row in table)


def seen(desk):
    """All that the desk tells of what is kept in it."""
    told = [desk.say("parts"), desk.say("wholes")]
    for name in " ".join(told).replace("-", "").split():
        told.append([desk.say(f"{word} {name}") for word in ["show", "first", "drift"]])
    return told + [desk.say(f"text {name}") for name in told[1].replace("-", "").split()]


def taken_back(desk):
    """The words of all deeds of a desk, the last one first; the desk is empty then."""
    words = []
    while not words or words[-1] != "-":
        words.append(desk.say("back"))
    return words


class Told(unittest.TestCase):

    def setUp(self):
        self.desk = Desk()

    def said(self, row, answer):
        told = self.desk.say(row)
        self.assertIs(type(told), str)
        self.assertEqual(told, answer, row)

    def all_said(self, *rows):
        for row, answer in rows:
            self.said(row, answer)

    def refuse(self, refusal, value, row):
        """Whether a row is refused so, and changes nothing."""
        before, given = seen(self.desk), plain(row)
        with self.assertRaises(errors.FarError, msg=row) as caught:
            self.desk.say(row)
        self.assertIs(type(caught.exception), refusal, row)
        told = list(vars(caught.exception).values())
        if refusal in (errors.NoRow, errors.NoDepth, errors.TooMany):
            self.assertEqual(told, [])
        else:
            self.assertEqual(told, [value], row)
        self.assertEqual(seen(self.desk), before)
        self.assertEqual(plain(row), given)

    def no_rows(self, *rows):
        for row in rows:
            self.refuse(errors.NoRow, None, row)


class Answers(Told):

    def test_an_empty_desk(self):
        self.all_said(("parts", "-"), ("wholes", "-"), ("back", "-"), ("back", "-"))

    def test_parts_and_wholes(self):
        self.all_said(
            ("part q 2 / 0 a 1 3", "ok"), ("wholes", "-"), ("part p 1", "ok"), ("parts", "p q"),
            ("whole z beside a,b p toss c 1 2 stop q", "ok"), ("whole w q", "ok"), ("wholes", "w z"), ("parts", "p q"),
            ("text z", "beside a,b p toss c 1 2 stop q"), ("text w", "q"), ("show p", "1"), ("show q", "2 / 0 a 1 3"),
            ("show w", "2 / 0 a 1 3"), ("whole y only - rename a>b,b>a ahead a q", "ok"), ("text y", "only - rename a>b,b>a ahead a q"),
            ("show y", "1"),
        )

    def test_what_a_whole_is(self):
        self.all_said(
            ("part p 2 / 0 a 1 3", "ok"), ("whole w ahead b p", "ok"), ("show w", "3 / 0 b 0 1 0 / 1 a 0 1 3"),
            ("whole v toss c 1 2 stop w", "ok"), ("show v", "5 / 0 c 0 1 2 0 0 / 2 b 0 0 0 1 0 / 3 a 0 0 0 1 3"),
        )

    def test_swap_first_and_drift(self):
        self.all_said(
            ("part p 2 / 0 a 1 1", "ok"), ("whole w ahead b p", "ok"), ("drift p", "0"), ("drift w", "0"),
            ("swap 1/7 p 2 / 0 a 1 3", "ok"), ("show p", "2 / 0 a 1 3"), ("first p", "2 / 0 a 1 1"),
            ("show w", "3 / 0 b 0 1 0 / 1 a 0 1 3"), ("first w", "3 / 0 b 0 1 0 / 1 a 0 1 1"), ("drift p", "1/7"),
            ("drift w", "1/14"), ("swap 0 p 2 / 0 a 1 3", "ok"), ("drift p", "1/7"), ("swap 1 p 1", "ok"), ("drift p", "1"),
            ("drift w", "1/2"), ("show w", "2 / 0 b 0 1"),
        )

    def test_back(self):
        self.all_said(
            ("part p 2 / 0 a 1 1", "ok"), ("whole w ahead b p", "ok"), ("swap 1 p 2 / 0 a 1 3", "ok"), ("back", "swap"),
            ("show p", "2 / 0 a 1 1"), ("drift p", "0"), ("back", "keep"), ("wholes", "-"), ("parts", "p"), ("back", "put"),
            ("parts", "-"), ("back", "-"), ("part p 1", "ok"), ("show p", "1"), ("first p", "1"),
        )

    def test_least(self):
        self.all_said(
            ("part p 3 / 0 a 2 1 1", "ok"), ("least p", "2 / 0 a 1 1"), ("show p", "3 / 0 a 2 1 1"), ("whole w p", "ok"),
            ("least w", "2 / 0 a 1 1"), ("swap 1 p 3 / 0 a 1 1 1 / 1 a 1 1 1 / 2 a 1 1 1", "ok"), ("least w", "1 / 0 a 1"),
        )

    def test_apart_table_depth_alike(self):
        self.all_said(
            ("part p 2 / 0 a 1 1", "ok"), ("part q 2 / 0 a 1 3", "ok"), ("part r 3 / 0 a 2 1 1", "ok"), ("apart p q", "1/7"),
            ("apart q p", "1/7"), ("apart p p", "0"), ("table p q", "1/7 1 / 1 0"), ("table p r", "0 1 1 / 1 0 0"),
            ("table r p", "0 1 / 1 0 / 1 0"), ("depth 0 p q", "0 0 / 0 0"), ("depth 1 p q", "0 1 / 1 0"),
            ("depth 2 p q", "1/8 1 / 1 0"), ("depth 12 p p", "0 1 / 1 0"), ("alike p q", "no"), ("alike p r", "yes"),
            ("alike p p", "yes"), ("part s 1", "ok"), ("table s s", "0"), ("apart s p", "1"), ("table s p", "1 0"),
        )

    def test_chance_and_word(self):
        self.all_said(
            ("part p 2 / 0 a 1 1", "ok"), ("part q 2 / 0 a 1 3", "ok"), ("chance p -", "1"), ("chance p a", "1"),
            ("chance p a,a", "1/2"), ("chance q a,a,a", "1/16"), ("chance q b", "0"), ("chance q a,b,a", "0"),
            ("word 0 p q", "0"), ("word 1 p q", "0"), ("word 2 p q", "1/16 a a"), ("word 6 q p", "1/16 a a"), ("word 6 p p", "0"),
            ("part r 2 / 0 b 0 1 / 1 c 1 0", "ok"), ("word 3 p r", "1/2 a"), ("part s 2 / 0 b 0 1 / 1 d 1 0", "ok"),
            ("word 6 r s", "1/4 b c"),
        )

    def test_names_that_are_words_of_rows(self):
        self.all_said(
            ("part show 1", "ok"), ("part back 1 / 0 back 1", "ok"), ("whole parts beside - show back", "ok"), ("parts", "back show"),
            ("wholes", "parts"), ("show show", "1"), ("text parts", "beside - show back"), ("apart back parts", "0"),
            ("chance back back,back", "1"), ("part whole 1", "ok"), ("show whole", "1"),
        )

    def test_what_is_asked_is_no_deed(self):
        self.all_said(("part p 2 / 0 a 1 1", "ok"), ("part q 2 / 0 a 1 3", "ok"), ("whole w ahead b p", "ok"), ("swap 1 p 1", "ok"))
        before = seen(self.desk)
        answers = [self.desk.say(row) for row in ASKING]
        self.assertEqual([self.desk.say(row) for row in ASKING], answers)
        self.assertEqual(seen(self.desk), before)
        self.assertEqual(taken_back(self.desk), ["swap", "keep", "put", "put", "-"])

    def test_two_desks_do_not_feel_each_other(self):
        other = Desk()
        self.said("part p 2 / 0 a 1 1", "ok")
        self.assertEqual(other.say("parts"), "-")
        self.assertEqual(other.say("part p 1"), "ok")
        self.assertEqual(other.say("back"), "put")
        self.all_said(("show p", "2 / 0 a 1 1"), ("back", "put"), ("back", "-"))

    def test_against_the_modules_by_dice(self):
        dice = Dice(1231)
        for turn in range(25):
            desk = Desk()
            one, other = [some_machine(dice, dice.between(1, 3), "abc"[:dice.between(1, 3)], 5, 40, 15) for each in range(2)]
            self.assertEqual([desk.say(f"part p {show(one)}"), desk.say(f"part q {show(other)}")], ["ok", "ok"])
            depth, word = dice.between(0, 6), [dice.one_of("abc") for sign in range(dice.below(4))]
            share, farthest = farthest_word(HALF, one, other, depth)
            for row, answer in [
                ("apart p q", str(distance(HALF, one, other))), ("table p q", table_text(apart(HALF, one, other))),
                (f"depth {depth} q p", table_text(apart_to(HALF, other, one, depth))), ("least q", show(least(other))),
                (f"chance p {','.join(word) or '-'}", str(chance(one, word))),
                (f"word {depth} p q", " ".join([str(share)] + farthest)), ("show q", show(other)),
            ]:
                self.assertEqual(desk.say(row), answer, row)

    def test_long_numbers_are_answered(self):
        """Weights of a hundred figures may be read; those of a joining, and shares, may be longer than Python writes."""
        left, right = 10 ** 100 - 1, 10 ** 99 + 7
        self.assertEqual(gcd(left, right), 1)
        self.all_said(
            (f"part p 2 / 0 a {left} {right}", "ok"), ("show p", f"2 / 0 a {left} {right}"),
            ("whole w beside a p p", "ok"), ("chance p a,a", f"{left}/{left + right}"),
        )
        self.assertEqual(self.desk.say("show w").split(" ")[4], str(left * left))
        self.assertEqual(len(self.desk.say("chance p " + ",".join("a" * 60)).split("/")[0]), 5900)


class NoRows(Told):

    def setUp(self):
        self.desk = Desk()
        self.all_said(("part p 2 / 0 a 1 1", "ok"), ("part q 2 / 0 a 1 3", "ok"), ("whole w ahead b p", "ok"))

    def test_what_is_no_text(self):
        things = anything() + [0, 1, FORTY, ["parts"], ("parts",), b"parts", Share(1), [["back"]], {"back": 1}]
        self.no_rows(*[thing for thing in things if not isinstance(thing, str)])

    def test_the_first_word(self):
        self.no_rows(
            "", " ", "  ", "a", "put p 1", "keep v p", "Parts", "PARTS", "parts,", " parts", "ok", "-", "len", "telling p q", "papers p q",
            "machine p", "stop", "ahead a p", "showp", "par", "partss p 1", "1", "/", "9" * 5000, "words 1 p q", "chances p a",
        )

    def test_how_many_words(self):
        self.no_rows("back p", "parts p", "wholes w", "back ", "parts ", " back", "wholes  ")
        for word in OF_ONE_NAME:
            self.no_rows(word, f"{word} p p", f"{word} p ", f"{word}  p", f"{word} p q w")
        for word in OF_TWO_NAMES:
            self.no_rows(word, f"{word} p", f"{word} p q w", f"{word} p q ", f"{word}  p q", f"{word} p  q")
        for word in NUMBERED:
            self.no_rows(word, f"{word} 1", f"{word} 1 p", f"{word} 1 p q w", f"{word} 1 p q ", f"{word} p q")
        self.no_rows("chance", "chance p", "chance p a b", "chance p a ", "chance p a, b")
        self.no_rows("part", "part p", "part r", "whole", "whole v", "swap", "swap 1", "swap 1 p", "part ", "whole ", "swap 1 ")

    def test_one_word_behind_is_enough(self):
        """An empty word is one: so these are rows, and their texts are refused."""
        self.refuse(errors.NoText, 0, "part r ")
        self.refuse(errors.NoText, 0, "part  ")
        self.refuse(errors.NoText, 0, "whole v ")
        self.refuse(errors.NoText, 0, "swap 1 p ")
        self.refuse(errors.NoName, "", "whole  ")

    def test_the_form_of_a_share(self):
        for share in [
            "", "-", "2", "3/2", "2/4", "0/1", "1/1", "0/2", "1/0", "0/0", "01", "1/02", "01/2", "00", "-1", "-1/2", "+1", "1/", "/2", "/",
            "1/2/3", "1//2", "a", "p", "0.5", "1/1000000000", "1000000000/1000000001", "1" * 5000, "1/" + "9" * 5000, "1,2", "1_0",
        ]:
            self.no_rows(f"swap {share} p 2 / 0 a 1 1", f"swap {share} x x")
        for share in ["0", "1", "1/2", "999999998/999999999", "1/999999999"]:
            self.said(f"swap {share} p 2 / 0 a 1 1", "ok")

    def test_the_form_of_a_number(self):
        for number in ["", "-", "-1", "+1", "00", "01", "007", "1000000000", "1" * 5000, "a", "p", "1/2", "1.0", "1,", "1_0", "0x1"]:
            for word in NUMBERED:
                self.no_rows(f"{word} {number} p q", f"{word} {number} x x")

    def test_the_form_of_signs(self):
        for signs in ["", ",", "a,", ",a", "a,,a", "-,a", "a,-", "--", "A", "a,B", "abcdefghi", "a,abcdefghi", "a>b", "a;b", "1", "a1", "_"]:
            self.no_rows(f"chance p {signs}", f"chance x {signs}")
        self.said("chance p abcdefgh,a", "0")
        self.said("chance p " + ",".join("a" * 20), f"1/{2 ** 19}")


class Order(Told):

    def setUp(self):
        self.desk = Desk()
        self.all_said(("part p 2 / 0 a 1 1", "ok"), ("part q 2 / 0 a 1 3", "ok"), ("whole w rename a>b p", "ok"))

    def test_of_part_the_text_first(self):
        for name in ["p", "w", "stop", "A", "", "abcdefghi", "r"]:
            self.refuse(errors.NoText, 0, f"part {name} 0")
            self.refuse(errors.NoText, 5, f"part {name} 2 / 0 a 2 2")
            self.refuse(errors.NoText, 2, f"part {name} 2 /")
            self.refuse(errors.NoText, 1, f"part {name} 2 ")
        for name in ["stop", "part", "rename", "A", "", "abcdefghi", "-"]:
            self.refuse(errors.NoName, name, f"part {name} 1")
        for name in ["p", "w"]:
            self.refuse(errors.Taken, name, f"part {name} 1")

    def test_of_swap_the_text_first(self):
        for share in ["0", "1", "1/2"]:
            for name in ["p", "w", "x", "stop", "A", ""]:
                self.refuse(errors.NoText, 0, f"swap {share} {name} x")
                self.refuse(errors.NoText, 4, f"swap {share} {name} 2 / 0 a")
        for name in ["w", "x", "stop", "A", ""]:
            self.refuse(errors.NotThere, name, f"swap 0 {name} 2 / 0 a 1 3")
            self.refuse(errors.NotThere, name, f"swap 1 {name} {TWELVE}")

    def test_of_swap_then_how_far_then_what_cannot_be_made(self):
        self.refuse(errors.TooFar, Share(1), "swap 1/2 p 1 / 0 a 1 / 0 b 1")
        self.refuse(errors.NoSign, [("a", "b")], "swap 1 p 1 / 0 a 1 / 0 b 1")
        self.refuse(errors.TooFar, Share(1, 7), "swap 142857142/999999999 p 2 / 0 a 1 3")
        self.said("part r 4", "ok")
        self.refuse(errors.TooMany, None, f"swap 0 r {TWELVE}")
        self.said("part s 1", "ok")
        self.said("whole u ahead a s", "ok")
        self.refuse(errors.TooFar, Share(1), f"swap 1/2 s {TWELVE}")
        self.refuse(errors.TooMany, None, f"swap 1 s {TWELVE}")
        self.said("swap 1 r 1", "ok")

    def test_of_whole(self):
        for name in ["stop", "A", "", "abcdefghi", "toss"]:
            for text in ["x", "A", "p", "", "rename a>c,c>a x"]:
                self.refuse(errors.NoName, name, f"whole {name} {text}")
        for name in ["p", "w"]:
            for text in ["x", "A", "p", "ahead a"]:
                self.refuse(errors.Taken, name, f"whole {name} {text}")
        self.refuse(errors.NoText, 1, "whole v x A")
        self.refuse(errors.NoText, 2, "whole v ahead a")
        self.refuse(errors.NoText, 30, "whole v" + " only -" * 15 + " p")
        self.refuse(errors.NotThere, "x", "whole v beside - x y")
        self.refuse(errors.NotThere, "v", "whole v beside - beside - p q v")
        self.said("part r 1 / 0 a 1 / 0 b 1", "ok")
        self.refuse(errors.NotThere, "x", "whole v beside - rename a>b r x")
        self.refuse(errors.NoSign, [("a", "b")], "whole v rename a>b r")
        self.said(f"part t {TWELVE}", "ok")
        self.refuse(errors.TooMany, None, "whole v ahead a t")

    def test_a_twenty_first_name(self):
        for at in range(17):
            self.said(f"part {'abcdefghijklmnopq'[at] * 2} 1", "ok")
        self.refuse(errors.TooMany, None, "part x 1")
        self.refuse(errors.TooMany, None, "whole x p")
        self.refuse(errors.Taken, "p", "part p 1")
        self.refuse(errors.NotThere, "y", "whole x y")
        self.refuse(errors.NoText, 0, "part x x")

    def test_names_that_are_not_there(self):
        for word in OF_ONE_NAME:
            for name in ["x", "A", "stop", "", "abcdefghi", "-", "1"]:
                self.refuse(errors.NotThere, name, f"{word} {name}")
        self.refuse(errors.NotThere, "p", "text p")
        for word in OF_TWO_NAMES + ["depth 1", "word 1"]:
            self.refuse(errors.NotThere, "x", f"{word} x p")
            self.refuse(errors.NotThere, "x", f"{word} p x")
            self.refuse(errors.NotThere, "y", f"{word} y x")
            self.refuse(errors.NotThere, "", f"{word}  x")
        self.refuse(errors.NotThere, "x", "chance x a")
        self.refuse(errors.NotThere, "x", "chance x -")

    def test_names_ahead_of_depths(self):
        for number in ["13", "999999999"]:
            self.refuse(errors.NoDepth, None, f"depth {number} p q")
            self.refuse(errors.NotThere, "x", f"depth {number} x p")
            self.refuse(errors.NotThere, "x", f"depth {number} p x")
        for number in ["7", "999999999"]:
            self.refuse(errors.NoDepth, None, f"word {number} p q")
            self.refuse(errors.NotThere, "x", f"word {number} x p")
            self.refuse(errors.NotThere, "x", f"word {number} p x")

    def test_too_many(self):
        self.all_said((f"part r {TWELVE}", "ok"), ("part s 4", "ok"), ("part t 1 / 0 a 1 / 0 b 1 / 0 c 1 / 0 d 1", "ok"))
        for row in ["apart r s", "table r s", "apart s r", "table s r", "word 1 t p", "word 0 p t"]:
            self.refuse(errors.TooMany, None, row)
        self.refuse(errors.NoDepth, None, "word 7 t p")
        self.refuse(errors.NotThere, "x", "apart r x")
        self.said("alike r s", "no")
        self.said("depth 0 s r", " / ".join([" ".join("0" * 12)] * 4))

    def test_refused_rows_are_no_deeds(self):
        for row in ["part p 1", "part r 0", "whole v x", "swap 0 p 1", "swap 1 w 1", "show x", "", "back p", None]:
            with self.assertRaises(errors.FarError):
                self.desk.say(row)
        self.assertEqual(taken_back(self.desk), ["keep", "put", "put", "-"])


if __name__ == "__main__":
    unittest.main()
