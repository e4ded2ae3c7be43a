"""Words: signs one behind the other, how often they can all be done, and which word tells two machines apart most."""

from farbetween.errors import NoSign, TooMany
from farbetween.fades import check_depth, check_fade
from farbetween.kinds import is_name
from farbetween.levels import even_level, grain_of, lowered, shares_at, stepped
from farbetween.machines import doors_of, trimmed
from farbetween.shares import Share

LONGEST = 6
MOST_SIGNS = 3


def check_word(thing):
    if not isinstance(thing, list):
        raise NoSign(thing)
    for sign in thing:
        if not is_name(sign):
            raise NoSign(sign)


def chances(machine, word):
    """How often all signs of the word can be done one behind the other, for each room to begin in."""
    check_word(word)
    doors = doors_of(machine)
    grain = grain_of(doors)
    level = even_level(1, machine.many)
    for sign in word[::-1]:
        level = lowered(stepped(doors, sign, level), grain)
    return shares_at(level, grain)


def chance(machine, word):
    """How often all signs of the word can be done one behind the other, from room 0 on.

    Rooms that can't be come to are left out: they could but make the reckoning longer.
    """
    return chances(trimmed(machine), word)[0]


def signs_of(machines):
    """The signs of all steps of these machines, each once, sorted."""
    return sorted({sign for machine in machines for room, sign, weights in machine.steps})


def farthest_word(fade, one, other, long):
    """A tuple (share, word): the word of at most this length by which faded chances differ most, and by how much."""
    check_fade(fade)
    check_depth(long, LONGEST)
    signs = signs_of([one, other])
    if len(signs) > MOST_SIGNS:
        raise TooMany(f"there are more than {MOST_SIGNS} signs")
    ours = doors_of(trimmed(one))
    theirs = doors_of(trimmed(other))
    best = (0, 1, [])
    spoken = [([], even_level(1, len(ours)), even_level(1, len(theirs)))]
    near, far = 1, 1
    for length in range(long):
        near *= fade.top
        far *= fade.bottom
        spoken = one_sign_longer(ours, theirs, signs, spoken)
        for word, here, there in spoken:
            top, bottom = difference(here, there)
            best = better(best, (near * top, far * bottom, word))
    top, bottom, word = best
    return Share(top, bottom), list(word)


def one_sign_longer(ours, theirs, signs, spoken):
    """All words that have a sign more ahead, in order, with the levels of their chances at both machines.

    Words that can be done from no room of either are left out: no longer one of them tells the machines apart.
    """
    longer = []
    for sign in signs:
        for word, here, there in spoken:
            near = stepped(ours, sign, here)
            far = stepped(theirs, sign, there)
            if any(near[0]) or any(far[0]):
                longer.append(([sign] + word, near, far))
    return longer


def difference(here, there):
    """A tuple (top, bottom): what two levels differ by at both rooms 0."""
    ours, near = here
    theirs, far = there
    return abs(ours[0] * far - theirs[0] * near), near * far


def better(one, other):
    """The one of two tuples (top, bottom, word) that is more; the first one where none is."""
    if other[0] * one[1] > one[0] * other[1]:
        return other
    return one
