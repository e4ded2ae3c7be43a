"""Two machines looked at together, pair of rooms by pair of rooms, in whole numbers."""

from farbetween.machines import menu
from farbetween.pivots import Haul
from farbetween.shares import common_multiple


class Meeting:
    """What is carried between the rooms of two machines, for each pair (x, y) of them that has the same menu.

    unlike has, room by room and place by place, 1 where menus are unlike, else 0; hauls is a dict, in
    order, from tuples (x, y, sign) to hauls; whole is a number that the grains of all of them divide.
    """

    def __init__(self, one, other):
        menus = same_menus(one, other)
        self.unlike = [[int((x, y) not in menus) for y in range(other.many)] for x in range(one.many)]
        first = weights_by_sign(one)
        second = weights_by_sign(other)
        self.hauls = {
            (x, y, sign): Haul(self.unlike, first[(x, sign)], second[(y, sign)])
            for (x, y), signs in menus.items()
            for sign in signs
        }
        whole = 1
        for haul in self.hauls.values():
            whole = common_multiple(whole, haul.grain)
        self.whole = whole

    def cheapen_all(self, costs):
        """Make all that is carried cheapest by these costs."""
        for haul in self.hauls.values():
            haul.cheapen(costs)

    def all_paid(self, costs):
        """A dict, in order, from tuples (x, y, sign) to what their hauls cost, all as parts of the one whole."""
        return {key: haul.paid(costs) * (self.whole // haul.grain) for key, haul in self.hauls.items()}


def same_menus(one, other):
    """A dict, in order, from the pairs of rooms that have the same menu to this menu."""
    ours = [menu(one, room) for room in range(one.many)]
    theirs = [menu(other, room) for room in range(other.many)]
    return {(x, y): signs for x, signs in enumerate(ours) for y, others in enumerate(theirs) if signs == others}


def weights_by_sign(machine):
    """A dict from tuples (room, sign) to the weights of their steps."""
    return {(room, sign): weights for room, sign, weights in machine.steps}
