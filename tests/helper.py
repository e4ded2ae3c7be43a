"""What several tests need: dice that always fall alike, numbers of shares, machines, and things of every kind."""

from fractions import Fraction

from farbetween.machines import Machine
from farbetween.shares import Share

FORTY = 10 ** 39


class Dice:
    """Numbers that look like chance and are the same in every run."""

    def __init__(self, seed):
        self.state = seed

    def below(self, many):
        rolled = 0
        for turn in range(many.bit_length() // 32 + 2):
            self.state = (self.state * 6364136223846793005 + 1442695040888963407) % 2 ** 64
            rolled = rolled * 2 ** 32 + (self.state >> 32)
        return rolled % many

    def between(self, low, high):
        return low + self.below(high - low + 1)

    def one_of(self, things):
        return things[self.below(len(things))]

    def mixed(self, things):
        left = list(things)
        return [left.pop(self.below(len(left))) for turn in range(len(left))]


def anything():
    """Things that are no whole number, no share, no list of shares and no text that means one."""
    ring = []
    ring.append(ring)
    return [
        None, True, False, "", "a", "1", "1/2", b"", b"1", (), (1,), (1, 2), [], [1], [None], ["1"], {}, {1: 2},
        {"top": 1, "bottom": 2}, set(), frozenset([1]), object(), len, int, Share, range(3), Fraction(1, 2), ring,
        [[]], [()], ([], []), [[[]]], Machine(1, []), Machine,
    ]


def no_fades():
    """Things that are no fade."""
    return anything() + [
        Share(0), Share(1), Share(2), Share(-1), Share(-1, 2), Share(3, 2), Share(FORTY + 1, FORTY), Share(-1, FORTY), 0, 1,
        -1, 2, "1/2", (1, 2), (Share(1, 2),), [Share(1, 2)], Fraction(1, 2),
    ]


def no_signs():
    """Things that are no sign."""
    return [thing for thing in anything() if thing != "a"] + [
        0, 1, -1, "A", "aB", "abcdefghi", "a1", "a b", " a", "a ", "a,b", "-", "_", "a_b", "0", ("a",), ["a"], [["a"]], b"a",
        {"a": "a"}, {"a"}, Share(1, 2), FORTY,
    ]


def shares(text):
    """The list of the shares that stand in this text, blanks between."""
    return [Share(*[int(number) for number in word.split("/")]) for word in text.split()]


def table(text):
    """The list of lists of the shares that stand in this text, rows parted by semicolons."""
    return [shares(row) for row in text.split(";")]


def number(share):
    return Fraction(share.top, share.bottom)


def numbers(many):
    return [number(share) for share in many]


def plain(thing, deep=6):
    """What a thing is made of, with each share's own numbers, to tell whether it was changed.

    Looked at to some depth alone, for a list may stand in itself.
    """
    if isinstance(thing, Share):
        return ("share", thing.top, thing.bottom)
    if isinstance(thing, Machine):
        return ("machine", thing.many, list(thing.steps))
    if isinstance(thing, (list, tuple)) and deep > 0:
        return (type(thing).__name__, [plain(each, deep - 1) for each in thing])
    return id(thing)


def lists_in(thing):
    """All lists that stand in a thing, the thing itself too, each as often as it stands there."""
    if not isinstance(thing, (list, tuple)):
        return []
    found = [thing] if isinstance(thing, list) else []
    for each in thing:
        found.extend(lists_in(each))
    return found


def machine(text):
    """The machine of this text: how many rooms, then the steps, each behind a slash."""
    (many,), *steps = [part.split() for part in text.split("/")]
    return Machine(int(many), [
        (int(room), sign, tuple(int(weight) for weight in weights)) for room, sign, *weights in steps
    ])


def some_machine(dice, many, signs, size=9, empty=40, missing=25):
    """A machine by dice; weights are 0, and steps are left out, as often as told, in a hundred."""
    steps = []
    for room in range(many):
        for sign in signs:
            if dice.below(100) >= missing:
                weights = [0 if dice.below(100) < empty else dice.between(1, size) for to in range(many)]
                weights[dice.below(many)] += 1
                steps.append((room, sign, tuple(weights)))
    return Machine(many, dice.mixed(steps))


def plain_machine(dice, many, signs, missing=25):
    """A machine by dice without chance: each step leads to one room."""
    return some_machine(dice, many, signs, 1, 100, missing)


def split_machine(dice, whole, many):
    """A machine of so many rooms that is alike to the one handed in: its rooms split in several, and mixed.

    Room 0 stays the first one. A step's weight is shared out, by dice, to all the rooms that its room was split into.
    """
    owners = [0] + dice.mixed(list(range(1, len(whole))) + [dice.below(len(whole)) for turn in range(many - len(whole))])
    steps = []
    for room, owner in enumerate(owners):
        for start, sign, weights in whole.steps:
            if start == owner:
                parts = [dice.between(0, 3) for to in owners]
                for to in range(len(whole)):
                    parts[owners.index(to)] += 1
                sums = [sum(part for part, each in zip(parts, owners) if each == to) for to in range(len(whole))]
                common = 1
                for each in sums:
                    common *= each
                led = [weights[each] * part * common // sums[each] for part, each in zip(parts, owners)]
                steps.append((room, sign, tuple(led)))
    return Machine(many, dice.mixed(steps))


def steps_by_sign(whole):
    """For each room a dict from signs to the fractions with which they lead to each room; sums of its own."""
    told = [{} for room in range(whole.many)]
    for room, sign, weights in whole.steps:
        told[room][sign] = [Fraction(weight, sum(weights)) for weight in weights]
    return told


def least_cost(costs, first, second):
    """The cost of a cheapest plan, all in Fractions: as much as can be along a cheapest way, again and again.

    Written for the tests, and otherwise than the package does it: what was carried may be carried back.
    """
    lying, wanted = list(first), list(second)
    carried = {}
    paid = Fraction(0)
    while any(lying):
        known = {("row", at): (Fraction(0), None) for at, amount in enumerate(lying) if amount > 0}
        relaxed = True
        while relaxed:
            relaxed = False
            for at, row in enumerate(costs):
                for to, cost in enumerate(row):
                    ways = [(("row", at), ("column", to), cost)]
                    if carried.get((at, to)):
                        ways.append((("column", to), ("row", at), -cost))
                    for here, there, price in ways:
                        if here in known and (there not in known or known[here][0] + price < known[there][0]):
                            known[there] = (known[here][0] + price, here)
                            relaxed = True
        end = min((known[("column", to)][0], to) for to, amount in enumerate(wanted) if amount > 0)[1]
        path = [("column", end)]
        while known[path[-1]][1] is not None:
            path.append(known[path[-1]][1])
        path.reverse()
        back = [(path[at + 1][1], path[at][1]) for at in range(1, len(path) - 1, 2)]
        amount = min([lying[path[0][1]], wanted[end]] + [carried[way] for way in back])
        for at in range(0, len(path) - 1, 2):
            way = (path[at][1], path[at + 1][1])
            carried[way] = carried.get(way, Fraction(0)) + amount
        for way in back:
            carried[way] -= amount
        lying[path[0][1]] -= amount
        wanted[end] -= amount
        paid += amount * known[("column", end)][0]
    return paid


def one_deeper(fade, one, other, known):
    """The table, in Fractions, that the document's rule makes of the table that is known, by sums of the tests' own."""
    told = []
    for ours in steps_by_sign(one):
        row = []
        for theirs in steps_by_sign(other):
            if sorted(ours) != sorted(theirs):
                row.append(Fraction(1))
            else:
                row.append(max([fade * least_cost(known, ours[sign], theirs[sign]) for sign in ours], default=Fraction(0)))
        told.append(row)
    return told
