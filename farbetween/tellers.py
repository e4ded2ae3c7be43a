"""How a book is written that tells two rooms apart.

Both machines are taken as one, of which no room of the one leads to a room of the other. For each depth and room
there can be a row whose worth at each room is how far apart it is from this room to this depth: the greatest of
rows that are worth 0 at this room, and at some other one just as much as both are apart.
"""

from farbetween.books import level_of
from farbetween.depths import tables_to
from farbetween.levels import grain_of
from farbetween.machines import Machine, doors_of
from farbetween.pivots import Haul
from farbetween.shares import Share, common_multiple, less


def side_by_side(one, other):
    """The machine that has the rooms of both, the other's behind the one's."""
    ours = tuple([0 for room in range(one.many)])
    theirs = tuple([0 for room in range(other.many)])
    steps = [(room, sign, weights + theirs) for room, sign, weights in one.steps]
    steps += [(one.many + room, sign, ours + weights) for room, sign, weights in other.steps]
    return Machine(one.many + other.many, steps)


class Teller:
    """A book that is being written, each row once; rooms are those of both machines, side by side.

    tables are how far apart the rooms are, depth by depth; numbers is a dict from rows, a share in them
    written as its top and bottom, to their numbers; levels has the worths of all rows.
    """

    def __init__(self, fade, one, other, depth):
        both = side_by_side(one, other)
        self.fade = fade
        self.doors = doors_of(both)
        self.grain = common_multiple(grain_of(self.doors), fade.bottom)
        self.tables = tables_to(fade, both, both, depth)
        self.book = []
        self.numbers = {}
        self.levels = []

    def told(self, depth, room, place):
        """A book that is worth more at the room than at the place by just as much as they are apart to this depth."""
        rows, bottom = self.tables[depth]
        if rows[room][place] == 0:
            return [("one",)]
        return self.book[:self.parting(depth, room, place) + 1]

    def parting(self, depth, room, place):
        """The number of a row that is worth more at the room than at the place by as much as they are apart."""
        ours = self.doors[room]
        theirs = self.doors[place]
        for sign in ours:
            if sign not in theirs:
                return self.written(("can", sign))
        for sign in theirs:
            if sign not in ours:
                return self.negated(self.written(("can", sign)))
        sign, prices = self.best_prices(depth - 1, ours, theirs)
        return self.written(("on", sign, self.least_by(depth - 1, prices)))

    def best_prices(self, depth, ours, theirs):
        """A tuple (sign, prices): the sign by which two rooms, with these doors, come farthest apart, and prices.

        Prices are a dict from the rooms that theirs leads to, to the tops of their prices over the table's bottom.
        """
        rows, bottom = self.tables[depth]
        most, grain, best, prices = -1, 1, "", {}
        for sign in ours:
            haul = Haul(rows, ours[sign], theirs[sign])
            paid = haul.paid(rows)
            if paid * grain > most * haul.grain:
                here, there = haul.prices(rows)
                most, grain, best = paid, haul.grain, sign
                prices = {room: there[room] for room, weight in enumerate(theirs[sign]) if weight > 0}
        return best, prices

    def least_by(self, depth, prices):
        """The number of a row that is worth, at each room, the least of all prices plus how far it is from there.

        Prices are set down by the least of them. What is added is subtracted from the inverse, and so the
        greatest of these is the inverse of the least.
        """
        rows, bottom = self.tables[depth]
        low = min(list(prices.values()))
        inverses = [
            self.lessened(self.negated(self.far_from(depth, room)), Share(price - low, bottom))
            for room, price in prices.items()
        ]
        return self.negated(self.greatest(inverses))

    def far_from(self, depth, room):
        """The number of a row whose worth at each room is how far apart it is from this one to this depth."""
        rows, bottom = self.tables[depth]
        found = self.negated(self.written(("one",)))
        for place, top in enumerate(rows[room]):
            if less(self.worth_at(found, place), Share(top, bottom)):
                other = self.parting(depth, place, room)
                found = self.greatest([found, self.lessened(other, self.worth_at(other, room))])
        return found

    def worth_at(self, number, room):
        """The worth of the row of this number at this room."""
        tops, bottom = self.levels[number]
        return Share(tops[room], bottom)

    def negated(self, number):
        return self.written(("not", number))

    def lessened(self, number, share):
        if share.top == 0:
            return number
        return self.written(("less", number, share.top, share.bottom))

    def greatest(self, numbers):
        """The number of a row that is worth as much as the greatest of these rows."""
        found = numbers[0]
        for number in numbers[1:]:
            if number != found:
                found = self.written(("either", found, number))
        return found

    def written(self, key):
        """The number of the row of this key, which is written if it does not stand in the book yet."""
        if key not in self.numbers:
            row = ("less", key[1], Share(key[2], key[3])) if key[0] == "less" else key
            self.levels.append(level_of(row, self.fade, self.doors, self.levels, self.grain))
            self.numbers[key] = len(self.book)
            self.book.append(row)
        return self.numbers[key]
