"""[10.1] to [10.4]: recipes, their texts, their machines and their bounds."""

import re
import unittest
from fractions import Fraction

from farbetween import errors
from farbetween.apart import distance
from farbetween.joinings import ahead, beside, only, rename, stop, toss
from farbetween.machines import Machine
from farbetween.recipes import bound, made, parts_of, read_recipe, show_recipe
from farbetween.shares import Share
from tests.helper import FORTY, Dice, anything, lists_in, machine, no_fades, number, plain, some_machine

HALF = Share(1, 2)
SEVEN = ["stop", "part", "ahead", "toss", "beside", "only", "rename"]
FOLLOW = {
    "stop": [], "ahead": ["sign", "recipe"], "toss": ["sign", "weight", "weight", "recipe", "recipe"],
    "beside": ["signs", "recipe", "recipe"], "only": ["signs", "recipe"], "rename": ["pairs", "recipe"],
}
SIGN = "[a-z]{1,8}"
FORMS = {
    "sign": SIGN, "weight": "1000|[1-9][0-9]{0,2}", "signs": f"-|{SIGN}(,{SIGN})*", "pairs": f"-|{SIGN}>{SIGN}(,{SIGN}>{SIGN})*",
}


def first_wrong(text):
    """The number of the first word of a recipe's text that isn't such as it should be; None where all are."""
    words = text.split(" ")
    wanted = ["recipe"]
    for at, word in enumerate(words):
        if at == 30 or not wanted:
            return at
        kind = wanted.pop(0)
        if kind == "recipe":
            if word in FOLLOW:
                wanted = FOLLOW[word] + wanted
            elif word == "part" or not re.fullmatch(SIGN, word):
                return at
        elif not re.fullmatch(FORMS[kind], word):
            return at
        elif kind == "signs" and len(set(word.split(","))) < len(word.split(",")):
            return at
        elif kind == "pairs" and word != "-":
            pairs = [pair.split(">") for pair in word.split(",")]
            if len({elder for elder, newer in pairs}) < len(pairs) or len({newer for elder, newer in pairs}) < len(pairs):
                return at
    return len(words) if wanted else None


def some_recipe(dice, words, names, signs="abc"):
    """A recipe by dice of at most so many words."""
    if words < 3 or dice.below(6) == 0:
        return ("stop",) if dice.below(5) == 0 else ("part", dice.one_of(names))
    some = tuple(dice.mixed(signs)[:dice.between(0, len(signs))])
    pairs = tuple(zip(dice.mixed(signs), dice.mixed(signs)))[:dice.between(0, len(signs))]
    word = dice.one_of(["ahead", "only", "rename"] + (["beside", "toss"] if words >= 7 else []))
    if word in ["beside", "toss"]:
        left = words - (2 if word == "beside" else 4)
        share = dice.between(1, left - 1)
        both = some_recipe(dice, share, names, signs), some_recipe(dice, left - share, names, signs)
        if word == "beside":
            return (word, some, *both)
        return (word, dice.one_of(signs), (dice.one_of([1, 2, 1000]), dice.between(1, 9)), *both)
    within = some_recipe(dice, words - 2, names, signs)
    return (word, {"ahead": dice.one_of(signs), "only": some, "rename": pairs}[word], within)


def text_by_hand(recipe):
    word, *more = recipe
    told = {
        "stop": lambda: "stop", "part": lambda name: name, "ahead": lambda sign, one: f"ahead {sign} {text_by_hand(one)}",
        "toss": lambda sign, weights, *both: " ".join(["toss", sign, *map(str, weights), *map(text_by_hand, both)]),
        "beside": lambda signs, *both: " ".join(["beside", ",".join(signs) or "-", *map(text_by_hand, both)]),
        "only": lambda signs, one: " ".join(["only", ",".join(signs) or "-", text_by_hand(one)]),
        "rename": lambda pairs, one: " ".join(["rename", ",".join(map(">".join, pairs)) or "-", text_by_hand(one)]),
    }
    return told[word](*more)


def only_tuples(thing):
    if isinstance(thing, tuple):
        return all(only_tuples(each) for each in thing)
    return type(thing) in (str, int)


class Texts(unittest.TestCase):

    def back_and_forth(self, text, recipe):
        told = read_recipe(text)
        self.assertEqual(told, recipe)
        self.assertTrue(only_tuples(told))
        before = plain(recipe, 40)
        self.assertEqual(show_recipe(recipe), text)
        self.assertEqual(plain(recipe, 40), before)

    def test_written_out(self):
        for text, recipe in [
            ("stop", ("stop",)),
            ("p", ("part", "p")),
            ("abcdefgh", ("part", "abcdefgh")),
            ("ahead a stop", ("ahead", "a", ("stop",))),
            ("toss a 1 1000 p stop", ("toss", "a", (1, 1000), ("part", "p"), ("stop",))),
            ("toss a 1000 1 p p", ("toss", "a", (1000, 1), ("part", "p"), ("part", "p"))),
            ("beside - p q", ("beside", (), ("part", "p"), ("part", "q"))),
            ("beside a p q", ("beside", ("a",), ("part", "p"), ("part", "q"))),
            ("only - p", ("only", (), ("part", "p"))),
            ("only c,a,b p", ("only", ("c", "a", "b"), ("part", "p"))),
            ("rename - p", ("rename", (), ("part", "p"))),
            ("rename a>b p", ("rename", (("a", "b"),), ("part", "p"))),
            ("rename b>a,a>b,c>c p", ("rename", (("b", "a"), ("a", "b"), ("c", "c")), ("part", "p"))),
            ("beside a,b p toss c 1 2 stop q", (
                "beside", ("a", "b"), ("part", "p"), ("toss", "c", (1, 2), ("stop",), ("part", "q")),
            )),
        ]:
            self.back_and_forth(text, recipe)

    def test_all_seven_within_one_another(self):
        text = "rename a>b only a,b beside - toss a 1 2 ahead b p stop q"
        recipe = ("rename", (("a", "b"),), ("only", ("a", "b"), (
            "beside", (), ("toss", "a", (1, 2), ("ahead", "b", ("part", "p")), ("stop",)), ("part", "q"),
        )))
        self.back_and_forth(text, recipe)

    def test_signs_that_are_words_of_recipes(self):
        for word in SEVEN:
            self.back_and_forth(f"ahead {word} p", ("ahead", word, ("part", "p")))
            self.back_and_forth(f"toss {word} 1 2 p stop", ("toss", word, (1, 2), ("part", "p"), ("stop",)))
            self.back_and_forth(f"beside {word} p stop", ("beside", (word,), ("part", "p"), ("stop",)))
            self.back_and_forth(f"rename {word}>stop,a>{word} p" if word != "stop" else "rename stop>a p", (
                "rename", ((word, "stop"), ("a", word)) if word != "stop" else (("stop", "a"),), ("part", "p"),
            ))
        self.back_and_forth(f"only {','.join(SEVEN)} stop", ("only", tuple(SEVEN), ("stop",)))

    def test_thirty_words(self):
        text = "beside - p " + "ahead a " * 13 + "stop"
        self.assertEqual(len(text.split(" ")), 30)
        recipe = ("stop",)
        for turn in range(13):
            recipe = ("ahead", "a", recipe)
        self.back_and_forth(text, ("beside", (), ("part", "p"), recipe))
        text = "toss a 1 1000 " * 5 + "p q r s t only a rename a>b stop"
        self.assertEqual(len(text.split(" ")), 30)
        self.assertEqual(show_recipe(read_recipe(text)), text)

    def test_by_dice(self):
        dice = Dice(1001)
        kinds = set()
        for turn in range(300):
            recipe = some_recipe(dice, dice.between(1, 30), ["p", "q", "stopp", "abcdefgh"], ["a", "b", "stop", "toss"])
            text = text_by_hand(recipe)
            self.assertIsNone(first_wrong(text))
            self.back_and_forth(text, recipe)
            kinds |= {recipe[0]}
        self.assertEqual(kinds, set(SEVEN))


class NoTexts(unittest.TestCase):

    def refuse(self, text, at):
        with self.assertRaises(errors.FarError, msg=text) as caught:
            read_recipe(text)
        self.assertIs(type(caught.exception), errors.NoText)
        self.assertEqual(caught.exception.at, at, text)
        self.assertIs(type(caught.exception.at), type(at))

    def test_what_is_no_text(self):
        for thing in anything() + [0, 1, FORTY, ("stop",), ["stop"], b"stop", Share(1)]:
            if not isinstance(thing, str):
                before = plain(thing)
                self.refuse(thing, None)
                self.assertEqual(plain(thing), before)

    def test_blanks(self):
        for text, at in [
            ("", 0), (" ", 0), ("  ", 0), (" stop", 0), ("stop ", 1), ("stop  ", 1), ("ahead  a stop", 1), ("ahead a  stop", 2),
            ("ahead a stop ", 3), (" ahead a stop", 0), ("toss a 1  2 p q", 3), ("beside  p q", 1), ("beside - p ", 3), ("ahead ", 1),
        ]:
            self.refuse(text, at)

    def test_words_left_off(self):
        for text, at in [
            ("ahead", 1), ("ahead a", 2), ("toss", 1), ("toss a", 2), ("toss a 1", 3), ("toss a 1 2", 4), ("toss a 1 2 p", 5),
            ("beside", 1), ("beside -", 2), ("beside - p", 3), ("only", 1), ("only a", 2), ("rename", 1), ("rename a>b", 2),
            ("beside - ahead a p", 5), ("beside a beside b p q", 6),
        ]:
            self.refuse(text, at)

    def test_words_behind_the_end(self):
        for text, at in [("stop stop", 1), ("p q", 1), ("p p", 1), ("ahead a stop stop", 3), ("beside - p q r", 4), ("stop 1", 1), ("stop A", 1)]:
            self.refuse(text, at)

    def test_what_begins_a_recipe(self):
        for word in ["part", "P", "Stop", "STOP", "abcdefghi", "1", "0", "-", "a,b", "a>b", "p1", "p_q", "/", "a\tb", "stopstops"]:
            self.refuse(word, 0)
            self.refuse(f"ahead a {word}", 2)
            self.refuse(f"beside - {word} q", 2)
            self.refuse(f"beside - p {word}", 3)
        self.refuse("part p", 0)
        self.refuse("ahead a part p", 2)

    def test_one_of_the_seven_words_where_a_name_should_be(self):
        for word in ["ahead", "toss", "beside", "only", "rename"]:
            self.refuse(word, 1)
            self.refuse(f"ahead a {word}", 3)
        self.refuse("beside - stop part", 3)

    def test_signs(self):
        for word in ["A", "aB", "abcdefghi", "1", "-", "a,b", "a>b", "", "a1", "_"]:
            self.refuse(f"ahead {word} stop", 1)
            self.refuse(f"toss {word} 1 2 p q", 1)

    def test_weights(self):
        for word in [
            "0", "01", "1001", "-1", "+1", "1.0", "a", "-", "", "00", "001", "1000000000", "2000", "1 ", "0x1", "1_0", "1/2", "9" * 5000,
            "0" * 4999 + "1", "1000" + "0" * 5000,
        ]:
            if " " not in word:
                self.refuse(f"toss a {word} 1 p q", 2)
                self.refuse(f"toss a 1 {word} p q", 3)
        self.refuse("toss a 1 p q", 3)
        self.refuse("toss 1 2 p q", 1)
        self.refuse("toss a p 1 2 q", 2)

    def test_lists_of_signs(self):
        for word in [
            "a,a", "a,b,a", "a,", ",a", ",", "a,,b", "-,a", "a,-", "--", "A", "a,B", "a,abcdefghi", "a;b", "a>b", "1", "a,1", "", "a-", "a.b",
        ]:
            self.refuse(f"beside {word} p q", 1)
            self.refuse(f"only {word} p", 1)

    def test_lists_of_pairs(self):
        for word in [
            "a", "a>", ">a", ">", "a>b>c", "a>b,", ",a>b", "a>b,c", "a>b,c>", "a>b,a>c", "a>b,c>b", "a>b,a>b", "-,a>b", "a>b,-", "A>b",
            "a>B", "a>abcdefghi", "a>>b", "a>b>", "a,b", "a>1", "--", "->-", "", "a>b,,c>d", "a<b",
        ]:
            self.refuse(f"rename {word} p", 1)

    def test_words_exchanged_and_told_twice(self):
        for text, at in [
            ("a ahead stop", 1), ("stop ahead a", 1), ("ahead ahead a stop", 3), ("ahead a a stop", 3), ("beside p - q", 2),
            ("beside p q -", 3), ("only p -", 2), ("rename p a>b", 1), ("rename a>b a>b p", 2), ("only - - p", 2), ("toss a 1 2 2 p q", 4),
            ("toss 1 a 2 p q", 1), ("toss a 1 2 p p q", 6), ("only only a p", 3),
        ]:
            self.refuse(text, at)
        for text, recipe in [("ahead stop a", ("ahead", "stop", ("part", "a"))), ("only only a", ("only", ("only",), ("part", "a")))]:
            self.assertEqual(read_recipe(text), recipe)

    def test_a_thirty_first_word(self):
        self.refuse("ahead a " * 15 + "stop", 30)
        self.refuse("ahead a " * 15 + "A", 30)
        self.refuse(("ahead a " * 15).strip(), 30)
        self.refuse("ahead a " * 16 + "stop", 30)
        self.refuse("ahead a " * 20, 30)
        self.refuse("ahead a " * 14 + "ahead", 29)
        self.refuse("ahead a " * 14 + "ahead A stop", 29)
        self.refuse("beside - p " + "ahead a " * 13 + "stop stop", 30)
        self.refuse("beside - p " + "ahead a " * 13 + "stop ", 30)
        self.refuse("beside - p " + "ahead a " * 13 + "ahead a stop", 30)
        self.refuse("beside - p " + "ahead a " * 13 + "ahead", 30)
        self.refuse("beside - p " + "ahead a " * 13, 29)
        self.refuse(("beside - p " + "ahead a " * 13).strip(), 29)
        self.refuse("stop " * 31, 1)
        self.refuse("ahead a " * 5000 + "stop", 30)

    def test_spoilt_by_dice(self):
        dice = Dice(1011)
        spoilers = SEVEN + ["p", "a", "A", "", "-", "a,b", "a,a", "a>b", "a>b>c", "a>b,a>c", "0", "1", "01", "1001", "abcdefghi", "/", "a,"]
        refused = 0
        for turn in range(1500):
            words = text_by_hand(some_recipe(dice, dice.between(1, 34), ["p", "q"])).split(" ")
            at = dice.below(len(words))
            way = dice.below(6)
            if way == 0:
                words.pop(at)
            elif way == 1:
                words.insert(at, words[at])
            elif way == 2:
                other = dice.below(len(words))
                words[at], words[other] = words[other], words[at]
            elif way == 3:
                words.insert(dice.between(0, len(words)), dice.one_of(spoilers))
            elif way == 4:
                words[at] = dice.one_of(spoilers)
            else:
                words = words[:at]
            text = " ".join(words)
            if first_wrong(text) is None:
                self.assertEqual(show_recipe(read_recipe(text)), text)
            else:
                refused += 1
                self.refuse(text, first_wrong(text))
        self.assertGreater(refused, 700)


class Made(unittest.TestCase):

    def setUp(self):
        self.parts = {"p": machine("2 / 0 a 1 3 / 0 b 1 1"), "q": machine("3 / 0 a 0 1 0 / 2 b 1 1 1"), "s": Machine(12, [])}

    def make(self, text):
        before = plain(list(self.parts.items()))
        told = made(read_recipe(text), self.parts)
        self.assertEqual(plain(list(self.parts.items())), before)
        self.assertIs(type(told), Machine)
        return told

    def test_each_kind(self):
        p, q = self.parts["p"], self.parts["q"]
        for text, whole in [
            ("stop", stop()), ("p", p), ("ahead z p", ahead("z", p)), ("toss z 2 3 p q", toss("z", (2, 3), p, q)),
            ("toss z 2 3 q p", toss("z", (2, 3), q, p)), ("beside a p q", beside(["a"], p, q)), ("beside - q p", beside([], q, p)),
            ("beside b,a p p", beside(["a", "b"], p, p)), ("only a p", only(["a"], p)), ("only - p", stop()),
            ("rename a>c p", rename([("a", "c")], p)), ("rename a>b,b>a p", rename([("a", "b"), ("b", "a")], p)), ("rename - p", p),
            ("ahead z only a beside a p rename b>c q", ahead("z", only(["a"], beside(["a"], p, rename([("b", "c")], q))))),
        ]:
            self.assertEqual(self.make(text), whole)

    def test_a_part_is_the_machine_as_it_is(self):
        """Also with rooms that can't be come to."""
        self.assertEqual(self.make("q"), self.parts["q"])
        self.assertEqual(self.make("s"), Machine(12, []))
        self.assertEqual(len(self.make("only - s")), 1)

    def test_parts_that_no_recipe_names_change_nothing(self):
        recipe = read_recipe("beside a p q")
        told = made(recipe, self.parts)
        self.assertEqual(made(recipe, {name: self.parts[name] for name in "pq"}), told)
        self.assertEqual(made(recipe, {**self.parts, "r": self.parts["p"], "stop": self.parts["s"]}), told)
        self.assertEqual(made(read_recipe("stop"), {}), stop())

    def refuse(self, refusal, value, text, parts):
        before = plain(list(parts.items()))
        with self.assertRaises(errors.FarError) as caught:
            made(read_recipe(text), parts)
        self.assertIs(type(caught.exception), refusal)
        if refusal is not errors.TooMany:
            self.assertEqual(list(vars(caught.exception).values()), [value])
            self.assertIs(type(list(vars(caught.exception).values())[0]), type(value))
        self.assertEqual(plain(list(parts.items())), before)

    def test_a_part_that_is_not_there(self):
        for text, name in [
            ("r", "r"), ("ahead a r", "r"), ("beside - r x", "r"), ("beside - x r", "x"), ("beside - p r", "r"), ("toss a 1 1 p beside - q y", "y"),
            ("toss a 1 1 beside - p zz r", "zz"), ("beside - z a", "z"),
        ]:
            self.refuse(errors.NotThere, name, text, self.parts)
        self.refuse(errors.NotThere, "p", "p", {})

    def test_what_is_not_there_ahead_of_all_else(self):
        long = Machine(12, [(at, "a", tuple(int(to == at + 1) for to in range(12))) for at in range(11)])
        self.refuse(errors.NotThere, "r", "beside - ahead a m r", {"m": long})
        self.refuse(errors.TooMany, None, "beside - ahead a m m", {"m": long})
        self.refuse(errors.NotThere, "r", "beside - rename a>b p r", self.parts)
        self.refuse(errors.NotThere, "r", "beside - r rename a>b p", self.parts)

    def test_a_joining_that_cannot_be_made(self):
        long = Machine(12, [(at, "a", tuple(int(to == at + 1) for to in range(12))) for at in range(11)])
        self.refuse(errors.NoSign, [("a", "b")], "rename a>b p", self.parts)
        self.refuse(errors.NoSign, [("c", "d"), ("b", "a")], "only a rename c>d,b>a p", self.parts)
        self.refuse(errors.TooMany, None, "ahead a m", {"m": long})
        self.refuse(errors.TooMany, None, "toss a 1 1 m stop", {"m": long})
        self.refuse(errors.TooMany, None, "beside - m rename a>b m", {"m": long})

    def test_renamings_that_fit_none_of_the_rooms_that_can_be_come_to(self):
        """Signs from rooms that can't be come to count where a part is renamed, but not once it was trimmed."""
        parts = {"p": machine("2 / 0 a 1 0 / 1 b 1 1")}
        self.refuse(errors.NoSign, [("a", "b")], "rename a>b p", parts)
        self.assertEqual(made(read_recipe("rename a>b only a,b p"), parts), machine("1 / 0 b 1"))

    def test_from_within_to_without_the_one_ahead_of_the_other(self):
        long = Machine(12, [(at, "a", tuple(int(to == at + 1) for to in range(12))) for at in range(11)])
        parts = {**self.parts, "m": long}
        self.refuse(errors.NoSign, [("a", "b")], "beside - rename a>b p ahead a m", parts)
        self.refuse(errors.TooMany, None, "beside - ahead a m rename a>b p", parts)
        self.refuse(errors.NoSign, [("b", "a")], "toss a 1 1 rename b>a p rename a>b p", parts)
        self.refuse(errors.TooMany, None, "rename a>b,b>c ahead a m", parts)
        self.refuse(errors.NoSign, [("a", "b")], "ahead a beside - m rename a>b p", parts)

    def test_parts_of(self):
        for text, names in [
            ("stop", []), ("p", ["p"]), ("beside p q p", ["p", "q"]), ("beside - q p", ["p", "q"]), ("toss a 1 1 z beside - a z", ["a", "z"]),
            ("ahead x only y rename z>w stop", []), ("beside - b toss b 1 2 aa beside b a b", ["a", "aa", "b"]),
        ]:
            recipe = read_recipe(text)
            before = plain(recipe, 40)
            told = parts_of(recipe)
            self.assertEqual(told, names)
            self.assertIs(type(told), list)
            told.append("x")
            self.assertEqual(parts_of(recipe), names)
            self.assertEqual(plain(recipe, 40), before)


def bound_by_hand(recipe, fade, drifts):
    word, *more = recipe
    if word == "stop":
        return Fraction(0)
    if word == "part":
        return drifts[more[0]]
    if word == "toss":
        (left, right), one, other = more[1:]
        return fade * (bound_by_hand(one, fade, drifts) * left + bound_by_hand(other, fade, drifts) * right) / (left + right)
    told = sum(bound_by_hand(each, fade, drifts) for each in more[1:])
    return min(Fraction(1), told * (fade if word == "ahead" else 1))


class Bounds(unittest.TestCase):

    def ask(self, text, fade, drifts):
        recipe = read_recipe(text)
        before = plain([recipe, fade, list(drifts.items())], 40)
        told = bound(recipe, fade, drifts)
        self.assertEqual(plain([recipe, fade, list(drifts.items())], 40), before)
        self.assertIs(type(told), Share)
        return told

    def test_written_out(self):
        drifts = {"p": Share(1, 3), "q": Share(3, 4), "n": Share(0), "o": Share(1)}
        for text, told in [
            ("stop", Share(0)), ("p", Share(1, 3)), ("n", Share(0)), ("o", Share(1)), ("ahead a q", Share(3, 8)), ("ahead a stop", Share(0)),
            ("toss a 1 2 q p", Share(17, 72)), ("toss a 2 1 q p", Share(11, 36)), ("toss a 1 1 o o", HALF), ("toss a 1 999 o n", Share(1, 2000)),
            ("beside a p p", Share(2, 3)), ("beside - p q", Share(1)), ("beside - o o", Share(1)), ("beside a,b stop p", Share(1, 3)),
            ("only a p", Share(1, 3)), ("only - q", Share(3, 4)), ("rename a>b p", Share(1, 3)), ("rename - o", Share(1)),
            ("ahead a ahead a ahead a o", Share(1, 8)), ("beside - ahead a o ahead b o", Share(1)),
        ]:
            self.assertEqual(self.ask(text, HALF, drifts), told, text)

    def test_at_most_one_at_every_recipe_within(self):
        drifts = {"p": Share(2, 3), "o": Share(1)}
        self.assertEqual(self.ask("ahead a beside - p p", HALF, drifts), HALF)
        self.assertEqual(self.ask("ahead a beside - o beside - o o", Share(7, 8), drifts), Share(7, 8))
        self.assertEqual(self.ask("toss a 1 1 beside - p p stop", HALF, drifts), Share(1, 4))
        self.assertEqual(self.ask("beside - ahead a beside - p p stop", HALF, drifts), HALF)

    def test_by_dice(self):
        dice = Dice(1021)
        names = ["p", "q", "r"]
        for turn in range(150):
            recipe = some_recipe(dice, dice.between(1, 30), names)
            fade = Share(dice.between(1, 7), 8)
            drifts = {name: Share(dice.between(0, 9), 9) for name in names}
            told = bound(recipe, fade, drifts)
            self.assertEqual(number(told), bound_by_hand(recipe, number(fade), {name: number(drifts[name]) for name in names}))
            self.assertTrue(0 <= number(told) <= 1)

    def test_never_less_than_how_far_apart_the_machines_of_the_recipe_are(self):
        dice = Dice(1022)
        looked = apart = 0
        for turn in range(400):
            recipe = some_recipe(dice, dice.between(1, 14), ["p", "q"])
            fade = Share(dice.between(1, 9), 10)
            old = {name: some_machine(dice, dice.between(1, 3), "abc", 5, 50, 20) for name in "pq"}
            new = {}
            for name in "pq":
                steps = [(room, sign, tuple(weight + dice.below(2) for weight in weights)) for room, sign, weights in old[name].steps]
                new[name] = Machine(old[name].many, steps)
            try:
                far = number(distance(fade, made(recipe, old), made(recipe, new)))
            except (errors.TooMany, errors.NoSign):
                continue
            drifts = {name: distance(fade, old[name], new[name]) for name in "pq"}
            self.assertLessEqual(far, number(bound(recipe, fade, drifts)))
            looked += 1
            apart += far > 0
        self.assertGreater(looked, 150)
        self.assertGreater(apart, 25)

    def refuse(self, refusal, text, fade, drifts):
        with self.assertRaises(errors.FarError) as caught:
            bound(read_recipe(text), fade, drifts)
        self.assertIs(type(caught.exception), refusal)
        return caught.exception

    def test_no_fade_first(self):
        for fade in no_fades():
            self.refuse(errors.NoFade, "p", fade, {"p": HALF})
            self.refuse(errors.NoFade, "stop", fade, {})
            self.refuse(errors.NoFade, "beside - p q", fade, {})

    def test_then_not_there(self):
        drifts = {"p": HALF}
        for text, name in [("q", "q"), ("beside - p q", "q"), ("beside - x q", "x"), ("toss a 1 1 beside - p z y", "z")]:
            self.assertEqual(self.refuse(errors.NotThere, text, HALF, drifts).name, name)
        self.assertEqual(self.ask("p", HALF, {**drifts, "q": Share(1)}), HALF)


class Lists(unittest.TestCase):

    def test_no_list_stands_in_what_is_read(self):
        self.assertEqual(lists_in(read_recipe("rename a>b only a,b beside - toss a 1 2 ahead b p stop q")), [])


if __name__ == "__main__":
    unittest.main()
