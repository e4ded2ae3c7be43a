"""[11.1] to [11.4]: the house, what is kept in it, what is swapped, and how far each name may have come."""

import unittest
from fractions import Fraction

from farbetween import errors
from farbetween.apart import distance
from farbetween.house import House
from farbetween.joinings import ahead, beside, stop, toss
from farbetween.machines import Machine
from farbetween.recipes import made, read_recipe
from farbetween.shares import Share
from tests.helper import Dice, anything, machine, no_fades, no_signs, number, plain, some_machine
from tests.test_recipes import bound_by_hand, some_recipe, text_by_hand

HALF = Share(1, 2)
ONE = Share(1)
SEVEN = ["stop", "part", "ahead", "toss", "beside", "only", "rename"]
COIN, BIASED, SURE = machine("2 / 0 a 1 1"), machine("2 / 0 a 1 3"), machine("1 / 0 a 1")
CHAIN = Machine(12, [(at, "a", tuple(int(to == at + 1) for to in range(12))) for at in range(11)])


def no_names():
    return no_signs() + SEVEN


def seen(house):
    """All that a house tells, to look whether it was changed."""
    names = house.parts() + house.wholes()
    return (
        len(house), house.parts(), house.wholes(), [plain(house.machine_of(name)) for name in names],
        [plain(house.first(name)) for name in names], [str(house.drift(name)) for name in names],
        [house.text_of(name) for name in house.wholes()],
    )


class Housed(unittest.TestCase):

    def refuse(self, refusal, value, house, deed, *handed):
        """Whether a deed is refused so, and changes nothing."""
        before, given = seen(house), plain(handed)
        with self.assertRaises(errors.FarError) as caught:
            getattr(house, deed)(*handed)
        self.assertIs(type(caught.exception), refusal)
        told = list(vars(caught.exception).values())
        if refusal in (errors.TooMany, errors.NoFade):
            self.assertEqual(told, [])
        elif refusal in (errors.NoName, errors.Taken, errors.NotThere):
            self.assertIs(told[0], value)
        else:
            self.assertEqual(told, [value])
            self.assertIs(type(told[0]), type(value))
        self.assertEqual(seen(house), before)
        self.assertEqual(plain(handed), given)


class Kept(Housed):

    def test_no_fade(self):
        for thing in no_fades():
            before = plain(thing)
            with self.assertRaises(errors.FarError) as caught:
                House(thing)
            self.assertIs(type(caught.exception), errors.NoFade)
            self.assertEqual(plain(thing), before)

    def test_a_new_house(self):
        house = House(HALF)
        self.assertEqual((len(house), house.parts(), house.wholes(), house.back()), (0, [], [], ""))

    def test_put(self):
        house = House(HALF)
        self.assertIsNone(house.put("q", COIN))
        self.assertIsNone(house.put("abcdefgh", BIASED))
        self.assertIsNone(house.put("p", COIN))
        self.assertEqual(house.parts(), ["abcdefgh", "p", "q"])
        self.assertEqual(house.wholes(), [])
        self.assertEqual([house.machine_of(name) for name in house.parts()], [BIASED, COIN, COIN])
        self.assertEqual([house.drift(name) for name in house.parts()], [Share(0)] * 3)
        self.assertEqual(len(house), 3)

    def test_a_part_is_kept_as_it_is(self):
        house = House(HALF)
        dead = machine("3 / 0 a 1 0 0 / 2 b 1 1 1")
        house.put("p", dead)
        self.assertEqual(house.machine_of("p"), dead)
        self.assertEqual(house.first("p"), dead)

    def test_keep(self):
        house = House(HALF)
        house.put("p", COIN)
        house.put("q", BIASED)
        self.assertIsNone(house.keep("z", "beside a p q"))
        self.assertIsNone(house.keep("w", "toss b 1 2 p ahead c q"))
        self.assertIsNone(house.keep("y", "stop"))
        self.assertEqual(house.parts(), ["p", "q"])
        self.assertEqual(house.wholes(), ["w", "y", "z"])
        self.assertEqual(house.machine_of("z"), beside(["a"], COIN, BIASED))
        self.assertEqual(house.machine_of("w"), toss("b", (1, 2), COIN, ahead("c", BIASED)))
        self.assertEqual(house.machine_of("y"), stop())
        self.assertEqual([house.text_of(name) for name in "wyz"], ["toss b 1 2 p ahead c q", "stop", "beside a p q"])
        self.assertEqual(len(house), 5)

    def test_wholes_of_wholes(self):
        house = House(HALF)
        house.put("p", COIN)
        house.keep("w", "ahead b p")
        house.keep("v", "toss c 1 1 w p")
        house.keep("u", "rename a>d v")
        self.assertEqual(house.machine_of("v"), toss("c", (1, 1), ahead("b", COIN), COIN))
        self.assertEqual(house.text_of("u"), "rename a>d v")
        self.assertEqual(house.wholes(), ["u", "v", "w"])

    def test_no_name(self):
        house = House(HALF)
        house.put("a", COIN)
        for thing in no_names():
            self.refuse(errors.NoName, thing, house, "put", thing, COIN)
            for text in ["a", "stop", "q", "A", None, "rename a>b a"]:
                self.refuse(errors.NoName, thing, house, "keep", thing, text)

    def test_taken(self):
        house = House(HALF)
        house.put("p", COIN)
        house.keep("w", "p")
        for name in ["p", "w"]:
            self.refuse(errors.Taken, name, house, "put", name, BIASED)
            for text in ["p", "q", "", None, "ahead a"]:
                self.refuse(errors.Taken, name, house, "keep", name, text)

    def test_no_text_then_not_there_then_what_cannot_be_made(self):
        house = House(HALF)
        house.put("p", machine("1 / 0 a 1 / 0 b 1"))
        house.put("m", CHAIN)
        for thing in anything():
            if not isinstance(thing, str):
                self.refuse(errors.NoText, None, house, "keep", "w", thing)
        for text, at in [("", 0), ("ahead a", 2), ("ahead a x y", 3), ("x y", 1), ("rename a>b,a>c p", 1), ("ahead A m", 1)]:
            self.refuse(errors.NoText, at, house, "keep", "w", text)
        for text, name in [("x", "x"), ("w", "w"), ("beside - y x", "y"), ("beside - rename a>b p x", "x"), ("beside - ahead a m w", "w")]:
            with self.assertRaises(errors.NotThere) as caught:
                house.keep("w", text)
            self.assertEqual(caught.exception.name, name)
        self.refuse(errors.NoSign, [("a", "b")], house, "keep", "w", "rename a>b p")
        self.refuse(errors.NoSign, [("c", "d"), ("b", "a")], house, "keep", "w", "only - rename c>d,b>a p")
        self.refuse(errors.TooMany, None, house, "keep", "w", "ahead a m")
        self.refuse(errors.NoSign, [("a", "b")], house, "keep", "w", "beside - rename a>b p ahead a m")
        self.refuse(errors.TooMany, None, house, "keep", "w", "beside - ahead a m rename a>b p")

    def test_twenty_names(self):
        house = House(HALF)
        names = [first + second for first in "abcd" for second in "abcde"]
        for at, name in enumerate(names):
            if at % 2:
                house.keep(name, "aa")
            else:
                house.put(name, SURE)
        self.assertEqual((len(house.parts()), len(house.wholes()), len(house)), (10, 10, 20))
        self.refuse(errors.TooMany, None, house, "put", "x", COIN)
        self.refuse(errors.TooMany, None, house, "keep", "x", "stop")
        self.refuse(errors.Taken, "aa", house, "put", "aa", COIN)
        self.refuse(errors.NoName, "stop", house, "put", "stop", COIN)
        self.refuse(errors.NoText, 1, house, "keep", "x", "stop stop")
        self.refuse(errors.NoSign, [("a", "b")], house, "keep", "x", "rename a>b beside - aa ahead b aa")
        with self.assertRaises(errors.NotThere):
            house.keep("x", "y")
        house.swap("aa", SURE, HALF)
        house.back()
        self.assertEqual(house.back(), "keep")
        house.keep("x", "stop")
        self.refuse(errors.TooMany, None, house, "put", "y", COIN)

    def test_what_is_not_there(self):
        house = House(HALF)
        house.put("p", COIN)
        house.keep("w", "p")
        for thing in anything() + no_names() + ["x", "pp", "W"]:
            for asked in ["machine_of", "first", "drift", "text_of"]:
                self.refuse(errors.NotThere, thing, house, asked, thing)
        self.refuse(errors.NotThere, "p", house, "text_of", "p")

    def test_lists_are_new_ones(self):
        house = House(HALF)
        house.put("p", COIN)
        house.keep("w", "p")
        house.parts().append("x")
        house.wholes().append("x")
        self.assertEqual((house.parts(), house.wholes()), (["p"], ["w"]))
        self.assertIsNot(house.parts(), house.parts())

    def test_two_houses_with_the_same_machines_do_not_feel_each_other(self):
        one, other = House(HALF), House(Share(7, 8))
        for house in [one, other]:
            house.put("p", COIN)
            house.keep("w", "ahead b p")
        before = seen(other)
        one.swap("p", BIASED, ONE)
        one.put("q", SURE)
        self.assertEqual(seen(other), before)
        other.back()
        self.assertEqual(one.wholes(), ["w"])
        self.assertEqual(one.machine_of("p"), BIASED)
        self.assertEqual(one.first("p"), COIN)


class Swapped(Housed):

    def setUp(self):
        self.house = House(HALF)
        self.house.put("p", COIN)
        self.house.put("q", machine("1 / 0 b 1"))
        self.house.keep("w", "beside - p q")
        self.house.keep("v", "toss c 1 3 p w")

    def test_done_where_they_are_near_enough(self):
        far = distance(HALF, COIN, BIASED)
        self.assertEqual(far, Share(1, 7))
        self.assertIsNone(self.house.swap("p", BIASED, far))
        self.assertEqual(self.house.machine_of("p"), BIASED)
        self.assertEqual(self.house.first("p"), COIN)
        self.assertEqual(self.house.machine_of("q"), machine("1 / 0 b 1"))
        self.assertEqual(self.house.machine_of("w"), beside([], BIASED, machine("1 / 0 b 1")))
        self.assertEqual(self.house.machine_of("v"), toss("c", (1, 3), BIASED, beside([], BIASED, machine("1 / 0 b 1"))))
        self.assertEqual(self.house.first("w"), beside([], COIN, machine("1 / 0 b 1")))
        self.assertEqual(len(self.house), 5)
        self.house.swap("p", COIN, ONE)
        self.assertEqual(self.house.machine_of("w"), self.house.first("w"))
        self.assertEqual(len(self.house), 6)

    def test_by_nought(self):
        self.house.swap("p", COIN, Share(0))
        self.house.swap("p", machine("3 / 0 a 2 1 1"), Share(0))
        self.assertEqual(self.house.machine_of("p"), machine("3 / 0 a 2 1 1"))
        self.assertEqual(self.house.drift("p"), Share(0))
        self.refuse(errors.TooFar, Share(1, 7), self.house, "swap", "p", BIASED, Share(0))

    def test_too_far(self):
        self.refuse(errors.TooFar, Share(1, 7), self.house, "swap", "p", BIASED, Share(1, 8))
        self.refuse(errors.TooFar, Share(1, 7), self.house, "swap", "p", BIASED, Share(142857142, 10 ** 9))
        self.refuse(errors.TooFar, ONE, self.house, "swap", "p", stop(), Share(99, 100))
        self.house.swap("p", stop(), ONE)

    def test_the_fade_counts(self):
        for fade in [Share(1, 3), Share(7, 8), Share(99, 100)]:
            house = House(fade)
            house.put("p", COIN)
            far = distance(fade, COIN, BIASED)
            self.refuse(errors.TooFar, far, house, "swap", "p", BIASED, Share(far.top * 10 - 1, far.bottom * 10))
            house.swap("p", BIASED, far)
            self.assertEqual(house.drift("p"), far)

    def test_not_there(self):
        for thing in anything() + no_names() + ["x", "w", "v", "pp"]:
            for other, within in [(BIASED, ONE), (BIASED, Share(0)), (Machine(12, []), ONE)]:
                self.refuse(errors.NotThere, thing, self.house, "swap", thing, other, within)

    def test_too_many_pairs_of_rooms(self):
        """Four rooms by ten are just forty, by eleven more."""
        self.house.put("r", Machine(4, [(0, "a", (1, 1, 0, 0))]))
        self.refuse(errors.TooMany, None, self.house, "swap", "r", CHAIN, ONE)
        self.refuse(errors.TooMany, None, self.house, "swap", "r", Machine(11, []), Share(0))
        self.house.swap("r", Machine(10, []), ONE)
        self.house.put("s", machine("1 / 0 a 1"))
        self.house.swap("s", CHAIN, ONE)

    def test_a_whole_that_cannot_be_made_any_more(self):
        house = House(HALF)
        house.put("p", COIN)
        house.keep("w", "rename a>b p")
        house.keep("v", "ahead c beside - p p")
        both = machine("1 / 0 a 1 / 0 b 1")
        long = machine("4 / 0 a 0 1 0 0 / 1 a 0 0 1 0 / 2 a 0 0 0 1")
        self.refuse(errors.NoSign, [("a", "b")], house, "swap", "p", both, ONE)
        self.refuse(errors.TooMany, None, house, "swap", "p", long, ONE)
        self.refuse(errors.TooFar, ONE, house, "swap", "p", both, HALF)
        far = distance(HALF, COIN, long)
        self.refuse(errors.TooFar, far, house, "swap", "p", long, Share(far.top * 10 - 1, far.bottom * 10))
        worse = machine("4 / 0 a 0 1 0 0 / 1 b 0 0 1 0 / 2 a 0 0 0 1")
        self.refuse(errors.NoSign, [("a", "b")], house, "swap", "p", worse, ONE)

    def test_the_first_whole_that_was_kept_is_refused_first(self):
        house = House(HALF)
        house.put("p", COIN)
        house.keep("z", "ahead c beside - p p")
        house.keep("y", "rename a>b p")
        house.keep("x", "rename a>b,c>d p")
        worse = machine("4 / 0 a 0 1 0 0 / 1 b 0 0 1 0 / 2 a 0 0 0 1")
        self.refuse(errors.TooMany, None, house, "swap", "p", worse, ONE)
        self.refuse(errors.NoSign, [("a", "b")], house, "swap", "p", machine("1 / 0 a 1 / 0 b 1"), ONE)

    def test_wholes_of_wholes_are_made_anew(self):
        house = House(HALF)
        house.put("p", COIN)
        house.keep("w", "ahead b p")
        house.keep("v", "ahead c w")
        house.keep("u", "beside b,c v w")
        house.swap("p", BIASED, ONE)
        parts = {"p": BIASED}
        for name in "wvu":
            parts[name] = made(read_recipe(house.text_of(name)), parts)
            self.assertEqual(house.machine_of(name), parts[name])


class Drifts(Housed):

    def test_of_a_part(self):
        house = House(HALF)
        house.put("p", COIN)
        house.put("q", COIN)
        self.assertEqual(house.drift("p"), Share(0))
        house.swap("p", BIASED, ONE)
        self.assertEqual(house.drift("p"), Share(1, 7))
        house.swap("p", COIN, ONE)
        self.assertEqual(house.drift("p"), Share(2, 7))
        self.assertEqual(house.drift("q"), Share(0))
        house.swap("p", SURE, ONE)
        self.assertEqual(number(house.drift("p")), Fraction(2, 7) + number(distance(HALF, COIN, SURE)))

    def test_at_most_one(self):
        house = House(HALF)
        house.put("p", COIN)
        house.keep("w", "p")
        house.keep("v", "ahead a p")
        for turn in range(3):
            house.swap("p", stop(), ONE)
            house.swap("p", COIN, ONE)
            self.assertEqual([house.drift(name) for name in "pwv"], [ONE, ONE, HALF])
        house.back()
        self.assertEqual(house.drift("p"), ONE)

    def test_of_a_whole_since_it_was_kept(self):
        house = House(HALF)
        house.put("p", COIN)
        house.put("q", BIASED)
        house.keep("w", "beside - p ahead b q")
        house.swap("p", BIASED, ONE)
        house.keep("v", "toss c 1 2 p q")
        self.assertEqual(house.first("v"), toss("c", (1, 2), BIASED, BIASED))
        self.assertEqual([house.drift(name) for name in "pqwv"], [Share(1, 7), Share(0), Share(1, 7), Share(0)])
        house.swap("q", COIN, ONE)
        self.assertEqual([house.drift(name) for name in "pqwv"], [Share(1, 7), Share(1, 7), Share(3, 14), Share(1, 21)])
        house.swap("p", COIN, ONE)
        self.assertEqual([house.drift(name) for name in "pqwv"], [Share(2, 7), Share(1, 7), Share(5, 14), Share(1, 14)])

    def test_of_wholes_of_wholes(self):
        """By the drifts since the outer whole was kept, though the inner one was kept earlier."""
        house = House(HALF)
        house.put("p", COIN)
        house.keep("w", "beside - p p")
        house.swap("p", BIASED, ONE)
        house.keep("v", "beside a w p")
        self.assertEqual([house.drift(name) for name in "pwv"], [Share(1, 7), Share(2, 7), Share(0)])
        house.swap("p", COIN, ONE)
        self.assertEqual([house.drift(name) for name in "pwv"], [Share(2, 7), Share(4, 7), Share(3, 7)])
        house.keep("u", "ahead b v")
        self.assertEqual(house.drift("u"), Share(0))
        house.swap("p", BIASED, ONE)
        self.assertEqual([house.drift(name) for name in "pwvu"], [Share(3, 7), Share(6, 7), Share(6, 7), Share(3, 14)])

    def test_a_whole_of_a_whole_has_at_most_one_within(self):
        house = House(HALF)
        house.put("p", SURE)
        house.keep("w", "beside a p p")
        house.keep("v", "ahead b w")
        house.swap("p", stop(), ONE)
        self.assertEqual([house.drift(name) for name in "wv"], [ONE, HALF])

    def test_what_was_taken_back_counts_no_more(self):
        house = House(HALF)
        house.put("p", COIN)
        house.keep("w", "ahead b p")
        house.swap("p", BIASED, ONE)
        house.swap("p", COIN, ONE)
        self.assertEqual([house.drift(name) for name in "pw"], [Share(2, 7), Share(1, 7)])
        house.back()
        self.assertEqual([house.drift(name) for name in "pw"], [Share(1, 7), Share(1, 14)])
        house.back()
        self.assertEqual([house.drift(name) for name in "pw"], [Share(0), Share(0)])

    def test_many_wholes_of_all_the_others(self):
        """Each of nineteen wholes is made of several ahead of it; asked for within a moment."""
        house = House(HALF)
        house.put("a", SURE)
        names = list("abcdefghijklmnopqrst")
        for at in range(1, 20):
            inner = names[max(0, at - 9):at]
            text = " ".join(f"beside a {name}" for name in inner[:-1]) + " " + inner[-1]
            house.keep(names[at], text.strip())
        house.swap("a", machine("2 / 0 a 0 1 / 1 a 1 0"), Share(0))
        self.assertEqual([house.drift(name) for name in names], [Share(0)] * 20)
        house.swap("a", stop(), ONE)
        self.assertEqual([house.drift(name) for name in names], [ONE] * 20)


class Back(Housed):

    def test_one_by_one_to_the_last(self):
        house = House(HALF)
        states = [seen(house)]
        words = []
        for word, handed in [
            ("put", ("p", COIN)), ("keep", ("w", "ahead b p")), ("swap", ("p", BIASED, ONE)), ("put", ("q", SURE)),
            ("keep", ("v", "beside a w q")), ("swap", ("q", COIN, ONE)), ("swap", ("p", COIN, HALF)), ("keep", ("u", "stop")),
        ]:
            getattr(house, word)(*handed)
            states.append(seen(house))
            words.append(word)
        while words:
            self.assertEqual(seen(house), states.pop())
            self.assertEqual(len(house), len(words))
            self.assertEqual(house.back(), words.pop())
        self.assertEqual(seen(house), states.pop())
        for turn in range(3):
            self.assertEqual(house.back(), "")
            self.assertEqual(len(house), 0)

    def test_a_name_that_is_gone_can_be_kept_anew(self):
        house = House(HALF)
        house.put("p", COIN)
        house.keep("w", "ahead b p")
        house.swap("p", BIASED, ONE)
        self.assertEqual([house.back(), house.back()], ["swap", "keep"])
        self.refuse(errors.NotThere, "w", house, "machine_of", "w")
        self.refuse(errors.NotThere, "w", house, "text_of", "w")
        house.put("w", SURE)
        self.assertEqual((house.parts(), house.wholes()), (["p", "w"], []))
        self.refuse(errors.NotThere, "w", house, "text_of", "w")
        house.swap("w", stop(), ONE)
        self.assertEqual(house.drift("w"), ONE)
        house.back(), house.back(), house.back()
        self.assertEqual(len(house), 0)
        house.keep("p", "stop")
        self.assertEqual((house.parts(), house.wholes(), house.text_of("p")), ([], ["p"], "stop"))

    def test_what_is_refused_is_no_deed(self):
        house = House(HALF)
        house.put("p", COIN)
        for deed, handed in [
            ("put", ("p", COIN)), ("put", ("stop", COIN)), ("keep", ("w", "x")), ("keep", ("w", "")), ("swap", ("p", BIASED, Share(0))),
            ("swap", ("x", COIN, ONE)), ("machine_of", ("x",)), ("drift", (None,)),
        ]:
            with self.assertRaises(errors.FarError):
                getattr(house, deed)(*handed)
            self.assertEqual(len(house), 1)
        self.assertEqual(house.back(), "put")
        self.assertEqual(house.back(), "")

    def test_what_is_asked_is_no_deed(self):
        house = House(HALF)
        house.put("p", COIN)
        house.keep("w", "p")
        for turn in range(2):
            seen(house)
        self.assertEqual(len(house), 2)


class Log:
    """What the tests themselves know of a house: its deeds in order, (word, name, machine, text, far)."""

    def __init__(self, fade):
        self.fade = fade
        self.deeds = []

    def names(self):
        return [(word, name) for word, name, *more in self.deeds if word != "swap"]

    def start(self, name):
        return [at for at, deed in enumerate(self.deeds) if deed[0] != "swap" and deed[1] == name][0]

    def now(self):
        """All machines by their names."""
        machines = {}
        for word, name, whole, text, far in self.deeds:
            if word != "keep":
                machines[name] = whole
        for word, name, whole, text, far in self.deeds:
            if word == "keep":
                machines[name] = made(read_recipe(text), machines)
        return machines

    def drift(self, name, since=None):
        start = self.start(name)
        since = start if since is None else since
        word, name, whole, text, far = self.deeds[start]
        if word == "put":
            return min(Fraction(1), sum((deed[4] for deed in self.deeds[since + 1:] if deed[:2] == ("swap", name)), Fraction(0)))
        recipe = read_recipe(text)
        names = [each for kind, each in self.names() if each in text.split(" ")]
        return bound_by_hand(recipe, number(self.fade), {each: self.drift(each, since) for each in names if each != name})


class ByDice(Housed):

    def test_deeds_by_dice(self):
        dice = Dice(1101)
        done = {"put": 0, "keep": 0, "swap": 0, "back": 0}
        looked = moved = 0
        for turn in range(12):
            fade = Share(dice.between(1, 9), 10)
            house, log = House(fade), Log(fade)
            for round in range(25):
                self.some_deed(dice, house, log, done)
                now = log.now()
                self.assertEqual(len(house), len(log.deeds))
                self.assertEqual(house.parts(), sorted(name for word, name in log.names() if word == "put"))
                self.assertEqual(house.wholes(), sorted(name for word, name in log.names() if word == "keep"))
                for word, name in log.names():
                    self.assertEqual(house.machine_of(name), now[name])
                    self.assertEqual(number(house.drift(name)), log.drift(name))
                    far = self.far(fade, house.first(name), now[name])
                    if far is not None:
                        looked += 1
                        moved += far > 0
                        self.assertLessEqual(far, number(house.drift(name)))
        self.assertGreater(min(done.values()), 10)
        self.assertGreater(looked, 500)
        self.assertGreater(moved, 50)

    def far(self, fade, one, other):
        try:
            return number(distance(fade, one, other))
        except errors.TooMany:
            return None

    def some_deed(self, dice, house, log, done):
        word = dice.one_of(["put", "keep", "keep", "swap", "swap", "swap", "swap", "back"])
        name = dice.one_of("ghijklmn")
        there = [each for kind, each in log.names()]
        parts = [each for kind, each in log.names() if kind == "put"]
        try:
            if word == "put":
                whole = some_machine(dice, dice.between(1, 3), "abc", 5, 50, 20)
                house.put(name, whole)
                log.deeds.append((word, name, whole, None, None))
            elif word == "keep":
                text = text_by_hand(some_recipe(dice, dice.between(1, 12), there or ["x"]))
                house.keep(name, text)
                log.deeds.append((word, name, None, text, None))
            elif word == "swap" and parts:
                name = dice.one_of(parts)
                old = house.machine_of(name)
                whole = Machine(old.many, [
                    (room, sign, tuple(weight + dice.below(2) for weight in weights)) for room, sign, weights in old.steps
                ])
                house.swap(name, whole, ONE)
                log.deeds.append((word, name, whole, None, number(distance(log.fade, old, whole))))
            else:
                word = "back"
                self.assertEqual(house.back(), log.deeds.pop()[0] if log.deeds else "")
            done[word] += 1
        except errors.FarError:
            pass


if __name__ == "__main__":
    unittest.main()
