"""[7.1] to [7.3]: books of sayings, their worths and their depths."""

import unittest
from fractions import Fraction

from farbetween import errors
from farbetween.depths import apart_to
from farbetween.machines import Machine
from farbetween.sayings import deep, worth, worths
from farbetween.shares import Share
from tests.helper import (
    FORTY, Dice, anything, lists_in, machine, no_fades, no_signs, number, numbers, plain, shares, some_machine, steps_by_sign
)

HALF = Share(1, 2)
FADES = [HALF, Share(1, 3), Share(7, 8), Share(1, FORTY), Share(FORTY - 1, FORTY)]
COIN = machine("3 / 0 a 1 1 2 / 0 b 0 0 1 / 1 a 1 0 0")
ALL_FORMS = [
    ("one",), ("can", "a"), ("on", "a", 1), ("not", 2), ("less", 3, Share(1, 4)), ("both", 1, 4), ("either", 2, 5),
]


def by_hand(book, fade, whole):
    """The worths of a book in Fractions, by sums of the tests' own."""
    told = []
    for word, *more in book:
        row = []
        for room, steps in enumerate(steps_by_sign(whole)):
            if word == "one":
                row.append(Fraction(1))
            elif word == "can":
                row.append(Fraction(int(more[0] in steps)))
            elif word == "on":
                led = steps.get(more[0], [])
                row.append(number(fade) * sum((part * told[more[1]][to] for to, part in enumerate(led)), Fraction(0)))
            elif word == "not":
                row.append(1 - told[more[0]][room])
            elif word == "less":
                row.append(max(Fraction(0), told[more[0]][room] - number(more[1])))
            else:
                row.append({"both": min, "either": max}[word](told[more[0]][room], told[more[1]][room]))
        told.append(row)
    return told


def depth_by_hand(book, at):
    word, *more = book[at]
    if word == "one":
        return 0
    if word == "can":
        return 1
    if word == "on":
        return 1 + depth_by_hand(book, more[1])
    return max(depth_by_hand(book, each) for each in more if not isinstance(each, Share))


def some_book(dice, many, signs, words=("one", "can", "on", "not", "less", "both", "either")):
    book = [dice.one_of([("one",), ("can", dice.one_of(signs))])]
    for at in range(1, many):
        word = dice.one_of(words)
        near, far, sign = at - 1 - dice.below(min(at, 3)), dice.below(at), dice.one_of(signs)
        bottom = dice.between(1, 20)
        book.append({
            "one": ("one",), "can": ("can", sign), "on": ("on", sign, near), "not": ("not", near),
            "less": ("less", near, Share(dice.between(0, bottom), bottom)), "both": ("both", near, far),
            "either": ("either", far, near),
        }[word])
    return book


class Worths(unittest.TestCase):

    def ask(self, book, fade, whole):
        """What is told, in Fractions, its form being looked at, and what is handed in staying as it was."""
        before = plain((book, fade, whole))
        told = worths(book, fade, whole)
        last = worth(book, fade, whole)
        self.assertEqual(plain((book, fade, whole)), before)
        self.assertIs(type(told), list)
        self.assertEqual([(type(row), len(row)) for row in told], [(list, whole.many)] * len(book))
        self.assertTrue(all(type(share) is Share for row in told for share in row))
        self.assertTrue(all(0 <= share.top <= share.bottom for row in told for share in row))
        self.assertEqual(len({id(each) for each in lists_in(told)}), len(book) + 1)
        self.assertEqual(last, told[-1][0])
        self.assertIs(type(last), Share)
        for row in told:
            for share in row:
                self.assertEqual(plain(share), plain(Share(share.top, share.bottom)), "in lowest terms")
        return [numbers(row) for row in told]

    def test_written_out(self):
        told = worths(ALL_FORMS, HALF, COIN)
        self.assertEqual(told, [shares(row) for row in [
            "1 1 1", "1 1 0", "1/4 1/2 0", "3/4 1/2 1", "1/2 1/4 3/4", "1/2 1/4 0", "1/2 1/2 0",
        ]])
        self.assertEqual(worth(ALL_FORMS, HALF, COIN), HALF)

    def test_one(self):
        self.assertEqual(self.ask([("one",)], HALF, COIN), [[1, 1, 1]])

    def test_can(self):
        book = [("can", "a"), ("can", "b"), ("can", "c"), ("can", "ab")]
        self.assertEqual(self.ask(book, HALF, COIN), [[1, 1, 0], [1, 0, 0], [0, 0, 0], [0, 0, 0]])

    def test_on(self):
        book = [("one",), ("on", "a", 0), ("on", "b", 0), ("on", "c", 0), ("on", "a", 1), ("on", "b", 1)]
        self.assertEqual(worths(book, Share(1, 3), COIN), [shares(row) for row in [
            "1 1 1", "1/3 1/3 0", "1/3 0 0", "0 0 0", "1/18 1/9 0", "0 0 0",
        ]])

    def test_on_what_is_nothing_worth(self):
        book = [("one",), ("not", 0), ("on", "a", 1), ("on", "a", 2), ("not", 3)]
        self.assertEqual(self.ask(book, HALF, COIN), [[1] * 3, [0] * 3, [0] * 3, [0] * 3, [1] * 3])

    def test_less_by_nought_by_one_and_by_more_than_there_is(self):
        book = [
            ("one",), ("on", "a", 0), ("less", 1, Share(0)), ("less", 1, Share(1)), ("less", 1, HALF), ("less", 1, Share(1, 6)),
            ("less", 1, Share(3, 4)), ("less", 0, Share(1)), ("less", 0, Share(1, FORTY)),
        ]
        self.assertEqual(worths(book, HALF, COIN), [shares(row) for row in [
            "1 1 1", "1/2 1/2 0", "1/2 1/2 0", "0 0 0", "0 0 0", "1/3 1/3 0", "0 0 0", "0 0 0",
        ]] + [[Share(FORTY - 1, FORTY)] * 3])

    def test_both_and_either(self):
        book = [
            ("can", "a"), ("can", "b"), ("on", "a", 0), ("both", 0, 1), ("either", 0, 1), ("both", 1, 2), ("either", 2, 1),
            ("both", 2, 2), ("either", 2, 2),
        ]
        self.assertEqual(worths(book, HALF, COIN), [shares(row) for row in [
            "1 1 0", "1 0 0", "1/4 1/2 0", "1 0 0", "1 1 0", "1/4 0 0", "1 1/2 0", "1/4 1/2 0", "1/4 1/2 0",
        ]])

    def test_rooms_without_steps(self):
        for many in [1, 5, 12]:
            told = self.ask(ALL_FORMS, HALF, Machine(many, []))
            self.assertEqual([row[0] for row in told], [1, 0, 0, 1, Fraction(3, 4), 0, 0])
            self.assertEqual(told, [[row[0]] * many for row in told])

    def test_the_last_row_counts_though_others_are_deeper(self):
        book = ALL_FORMS + [("one",)]
        self.assertEqual(worth(book, HALF, COIN), Share(1))
        self.assertEqual(worth(ALL_FORMS[:2], HALF, machine("2 / 1 a 1 1")), Share(0))

    def test_rooms_that_cannot_be_come_to_are_told(self):
        whole = machine("3 / 0 a 1 0 0 / 2 b 1 1 0")
        self.assertEqual(self.ask([("can", "b"), ("on", "b", 0)], HALF, whole), [[0, 0, 1], [0, 0, 0]])

    def test_against_sums(self):
        dice = Dice(701)
        for turn in range(60):
            whole = some_machine(dice, dice.between(1, 12), "abc", dice.one_of([1, 9, 1000]))
            book, fade = some_book(dice, dice.between(1, 40), ["a", "b", "c", "d"]), dice.one_of(FADES)
            self.assertEqual(self.ask(book, fade, whole), by_hand(book, fade, whole))

    def test_each_beginning_of_a_book(self):
        dice = Dice(702)
        whole = some_machine(dice, 4, "ab")
        book = some_book(dice, 30, "ab")
        told = worths(book, HALF, whole)
        for many in range(1, 31):
            self.assertEqual(worths(book[:many], HALF, whole), told[:many])
            self.assertEqual(worth(book[:many], HALF, whole), told[many - 1][0])

    def test_weights_of_great_size(self):
        whole = Machine(2, [(0, "a", (FORTY, 1)), (1, "a", (1, FORTY ** 40))])
        book = [("can", "a"), ("on", "a", 0), ("not", 1), ("on", "a", 2), ("less", 3, Share(1, 4)), ("on", "a", 4)]
        for fade in FADES:
            self.assertEqual(self.ask(book, fade, whole), by_hand(book, fade, whole))

    def test_chains_that_name_the_row_ahead_twice(self):
        for word in ["both", "either"]:
            for many in [60, 100, 299]:
                book = [("can", "a")] + [(word, at, at) for at in range(many)]
                self.assertEqual(self.ask(book, HALF, COIN), [[1, 1, 0]] * (many + 1))

    def test_chains_that_name_two_rows_ahead(self):
        book = [("one",), ("can", "a")]
        for at in range(2, 200):
            book.append([("both", at - 1, at - 2), ("on", "a", at - 1), ("either", at - 2, at - 1), ("not", at - 1)][at % 4])
        self.assertEqual(self.ask(book, HALF, COIN), by_hand(book, HALF, COIN))

    def test_chains_of_steps(self):
        dice = Dice(703)
        whole = some_machine(dice, 12, "ab", 9, 20, 0)
        book = [("one",)] + [("on", dice.one_of("ab"), at) for at in range(299)]
        told = worths(book, Share(7, 8), whole)
        self.assertEqual([numbers(row) for row in told[:40]], by_hand(book[:40], Share(7, 8), whole))
        self.assertTrue(all(row == [row[0]] * 12 for row in told))
        book = [("can", "c")] + [("on", "a", at) for at in range(299)]
        whole = Machine(3, [(0, "a", (3, 4, 0)), (1, "a", (1, 2, 5)), (2, "a", (1, 0, 9)), (2, "c", (1, 0, 0))])
        told = worths(book, Share(2, 3), whole)
        self.assertEqual([numbers(row) for row in told], by_hand(book, Share(2, 3), whole))

    def test_chains_of_shares_taken_off(self):
        book = [("one",)] + [("less", at, Share(1, at + 300)) for at in range(150)]
        self.assertEqual(self.ask(book, HALF, COIN), by_hand(book, HALF, COIN))

    def test_changed_by_the_caller_the_same_is_told(self):
        book = list(ALL_FORMS)
        told = worths(book, HALF, COIN)
        before = plain(told)
        for each in lists_in(told):
            each.append(None)
            each[0] = None
        self.assertEqual(plain(worths(book, HALF, COIN)), before)

    def test_no_row_is_worth_more_than_rooms_are_apart_to_its_depth(self):
        dice = Dice(704)
        for turn in range(12):
            one, other = some_machine(dice, 3, "ab", 3, 30, 8), some_machine(dice, 4, "ab", 3, 30, 8)
            book, fade = some_book(dice, 25, "ab"), dice.one_of(FADES)
            ours, theirs = self.ask(book, fade, one), self.ask(book, fade, other)
            tables = [[numbers(row) for row in apart_to(fade, one, other, depth)] for depth in range(13)]
            for at in range(len(book)):
                depth = deep(book[:at + 1])
                if depth <= 12:
                    for x in range(3):
                        for y in range(4):
                            self.assertLessEqual(abs(ours[at][x] - theirs[at][y]), tables[depth][x][y])


class Deep(unittest.TestCase):

    def test_written_out(self):
        self.assertEqual([deep(ALL_FORMS[:many]) for many in range(1, 8)], [0, 1, 2, 2, 2, 2, 2])
        self.assertEqual(deep([("one",), ("on", "a", 0)]), 1)
        self.assertEqual(deep([("one",), ("not", 0), ("less", 1, HALF), ("both", 1, 2), ("either", 0, 3)]), 0)
        self.assertEqual(deep([("can", "a"), ("one",), ("both", 0, 1)]), 1)
        self.assertEqual(deep([("can", "a"), ("one",), ("both", 1, 0)]), 1)
        self.assertEqual(deep([("can", "a"), ("one",), ("either", 0, 1)]), 1)
        self.assertEqual(deep([("can", "a"), ("on", "b", 0), ("one",)]), 0)
        self.assertIs(type(deep([("can", "a")])), int)

    def test_each_beginning_of_a_book(self):
        dice = Dice(711)
        for turn in range(20):
            book = some_book(dice, 14, "abc")
            before = plain(book)
            for many in range(1, 15):
                self.assertEqual(deep(book[:many]), depth_by_hand(book, many - 1))
            self.assertEqual(plain(book), before)

    def test_chains(self):
        for word in ["both", "either"]:
            self.assertEqual(deep([("can", "a")] + [(word, at, at) for at in range(200)]), 1)
            self.assertEqual(deep([("one",)] + [(word, at, at) for at in range(60)]), 0)
        self.assertEqual(deep([("one",)] + [("on", "a", at) for at in range(299)]), 299)
        self.assertEqual(deep([("can", "a")] + [("on", "a", at) for at in range(60)]), 61)


def no_rows():
    """Things that are no row, wherever they stand from row 3 on of a book."""
    spoilt = [
        (), ("one", 0), ("one", "a"), ("one", ()), ("one", None), ("on",), ("can",), ("not",), ("less",), ("both",), ("either",),
        ("can", "a", 0), ("can", 0), ("on", "a"), ("on", 0), ("on", 0, "a"), ("on", "a", 0, 0), ("on", "a", "a"), ("not", 0, 0),
        ("not", "a"), ("less", 0), ("less", Share(1, 2), 0), ("less", 0, Share(1, 2), 0), ("less", 0, 0), ("less", 0, 1),
        ("both", 0), ("both", 0, 0, 0), ("either", 0), ("either", 0, 0, 0), ("One",), ("ONE",), ("none",), ("", ), ("one ",),
        ("two",), ("and", 0, 0), ("or", 0, 0), ("part", "a"), (0, 0), (None,), (("one",),), (["one"],), ("o", "n", "e"),
        ["one"], ["can", "a"], ["not", 0], "one", "o", b"one", (b"one",), {"one": 1}, [("one",)], (0,), (True,), (Share(1),),
    ]
    for sign in no_signs():
        spoilt += [("can", sign), ("on", sign, 0)]
    for number in [3, 4, 300, -1, -3, FORTY, True, False, None, "0", "", [], (), (0,), [0], Share(0), Share(1), "a"]:
        spoilt += [
            ("on", "a", number), ("not", number), ("less", number, HALF), ("both", number, 0), ("both", 0, number),
            ("either", number, 0), ("either", 0, number),
        ]
    for share in anything() + [
        Share(-1), Share(2), Share(-1, FORTY), Share(FORTY + 1, FORTY), Share(3, 2), Share(-1, 2), 0, 1, (1, 2), [Share(1, 2)],
    ]:
        spoilt.append(("less", 0, share))
    return spoilt


class NoBooks(unittest.TestCase):

    def refuse(self, refusal, asked, *handed):
        before = plain(handed)
        with self.assertRaises(errors.FarError) as caught:
            asked(*handed)
        self.assertIs(type(caught.exception), refusal)
        self.assertEqual(plain(handed), before)

    def refuse_book(self, book):
        self.refuse(errors.NoBook, deep, book)
        for asked in [worths, worth]:
            self.refuse(errors.NoBook, asked, book, HALF, COIN)
            self.refuse(errors.NoFade, asked, book, Share(1), COIN)

    def test_no_list_of_rows(self):
        for thing in anything() + [0, 1, ("one",), (("one",),), "one", {0: ("one",)}, {("one",)}, Share(1, 2)]:
            self.refuse_book(thing)

    def test_the_list_without_rows(self):
        self.refuse_book([])

    def test_no_row(self):
        good = [("one",), ("can", "a"), ("on", "a", 1)]
        deep(good)
        for row in no_rows() + anything():
            self.refuse_book(good + [row])
            self.refuse_book(good + [row, ("one",)])

    def test_no_row_at_the_beginning(self):
        for row in [
            ("not", 0), ("on", "a", 0), ("less", 0, HALF), ("both", 0, 0), ("either", 0, 0), ("not", -1), ("not", 1), (), "one",
        ]:
            self.refuse_book([row])
            self.refuse_book([row, ("one",)])

    def test_a_row_that_names_itself_or_one_behind_it(self):
        for at in [2, 3]:
            for row in [
                ("not", at), ("on", "a", at), ("less", at, HALF), ("both", 0, at), ("both", at, 0), ("either", at, 1), ("either", 1, at),
            ]:
                self.refuse_book([("one",), ("one",), row, ("one",)])

    def test_a_book_that_stands_in_itself(self):
        ring = [("one",)]
        ring.append(ring)
        self.refuse_book(ring)
        ring = [("one",)]
        ring.append(("not", ring))
        self.refuse_book(ring)

    def test_each_form_is_a_row(self):
        for row in [
            ("one",), ("can", "a"), ("can", "abcdefgh"), ("can", "one"), ("on", "z", 0), ("on", "a", 1), ("not", 0), ("not", 1),
            ("less", 0, Share(0)), ("less", 1, Share(1)), ("less", 0, Share(1, FORTY)), ("both", 0, 0), ("both", 1, 0),
            ("either", 1, 1), ("either", 0, 1),
        ]:
            for book in [[("one",), ("one",), row], [("one",), ("one",), row, ("not", 2)]]:
                deep(book)
                self.assertEqual(len(worths(book, HALF, COIN)), len(book))
                worth(book, HALF, COIN)

    def test_no_fade_whatever_the_book(self):
        for fade in no_fades():
            for book in [ALL_FORMS, [], None, [("two",)], "one"]:
                self.refuse(errors.NoFade, worths, book, fade, COIN)
                self.refuse(errors.NoFade, worth, book, fade, COIN)


if __name__ == "__main__":
    unittest.main()
