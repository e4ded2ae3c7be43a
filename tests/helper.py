"""What several tests need: dice that always fall alike, numbers of shares, and things of every kind."""

from fractions import Fraction

from farbetween.shares import Share

FORTY = 10 ** 39


class Dice:
    """Numbers that look like chance and are the same in every run."""

    def __init__(self, seed):
        self.state = seed

    def below(self, many):
        rolled = 0
        for turn in range(many.bit_length() // 32 + 2):
            self.state = (self.state * 6364136223846793005 + 1442695040888963407) % 2 ** 64
            rolled = rolled * 2 ** 32 + (self.state >> 32)
        return rolled % many

    def between(self, low, high):
        return low + self.below(high - low + 1)

    def one_of(self, things):
        return things[self.below(len(things))]

    def mixed(self, things):
        left = list(things)
        return [left.pop(self.below(len(left))) for turn in range(len(left))]


def anything():
    """Things that are no whole number, no share, no list of shares and no text that means one."""
    ring = []
    ring.append(ring)
    return [
        None, True, False, "", "a", "1", "1/2", b"", b"1", (), (1,), (1, 2), [], [1], [None], ["1"], {}, {1: 2},
        {"top": 1, "bottom": 2}, set(), frozenset([1]), object(), len, int, Share, range(3), Fraction(1, 2), ring,
        [[]], [()], ([], []), [[[]]],
    ]


def shares(text):
    """The list of the shares that stand in this text, blanks between."""
    return [Share(*[int(number) for number in word.split("/")]) for word in text.split()]


def table(text):
    """The list of lists of the shares that stand in this text, rows parted by semicolons."""
    return [shares(row) for row in text.split(";")]


def number(share):
    return Fraction(share.top, share.bottom)


def numbers(many):
    return [number(share) for share in many]


def plain(thing, deep=6):
    """What a thing is made of, with each share's own numbers, to tell whether it was changed.

    Looked at to some depth alone, for a list may stand in itself.
    """
    if isinstance(thing, Share):
        return ("share", thing.top, thing.bottom)
    if isinstance(thing, (list, tuple)) and deep > 0:
        return (type(thing).__name__, [plain(each, deep - 1) for each in thing])
    return id(thing)


def lists_in(thing):
    """All lists that stand in a thing, the thing itself too, each as often as it stands there."""
    if not isinstance(thing, (list, tuple)):
        return []
    found = [thing] if isinstance(thing, list) else []
    for each in thing:
        found.extend(lists_in(each))
    return found
