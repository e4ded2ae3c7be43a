"""Levels: a number for each room of a machine, all of them written over one bottom, a tuple (tops, bottom).

Step by step the bottom gets longer. But what can divide it is known, a grain: all that divides the bottom
has primes of the grain alone. So terms are made lower by looking at the grain, which stays short.
"""

from farbetween.shares import common_multiple, common_part, lowest_share


def grain_of(doors):
    """The least number that the sums of all weights of these doors divide."""
    grain = 1
    for door in doors:
        for weights in door.values():
            grain = common_multiple(grain, sum(weights))
    return grain


def even_level(number, many):
    """The level that has this whole number at each of so many rooms."""
    return [number for room in range(many)], 1


def stepped(doors, sign, level):
    """The level that is to be awaited, at each room, of this one behind a step by this sign; 0 where there is none."""
    tops, bottom = level
    whole = grain_of([{sign: door[sign]} for door in doors if sign in door])
    return [awaited(door[sign], tops, whole) if sign in door else 0 for door in doors], bottom * whole


def awaited(weights, tops, whole):
    """What these weights make of these tops, as so much of the whole, which the sum of the weights divides."""
    return sum([weight * top for weight, top in zip(weights, tops)]) * (whole // sum(weights))


def lowered(level, grain):
    """The same level, with nothing left that divides all of its numbers."""
    tops, bottom = level
    common = shared_part(tops, common_part(bottom, grain))
    while common > 1:
        tops = [top // common for top in tops]
        bottom //= common
        common = shared_part(tops, common_part(bottom, common))
    return tops, bottom


def shared_part(tops, common):
    """The greatest number that divides this one and all of these."""
    for top in tops:
        if common == 1:
            return 1
        common = common_part(top, common)
    return common


def same_bottoms(one, other):
    """A tuple (tops, tops, bottom): both levels, written over one bottom."""
    ours, near = one
    theirs, far = other
    if near == far:
        return ours, theirs, near
    bottom = common_multiple(near, far)
    return [top * (bottom // near) for top in ours], [top * (bottom // far) for top in theirs], bottom


def shares_at(level, grain):
    """The shares of a level, room by room."""
    tops, bottom = level
    return [share_by(top, bottom, grain) for top in tops]


def share_by(top, bottom, grain):
    """The share of this top and this bottom, which has primes of the grain alone."""
    if top == 0:
        return lowest_share(0, 1)
    tops, lower = lowered(([top], bottom), grain)
    return lowest_share(tops[0], lower)
