"""Joinings: machines that are made of others.

Each joining has things, plain tuples, and for each thing a dict from signs to its goals: a list, in order, of
tuples (thing, weight).
"""

from farbetween.errors import NoSign, TooMany
from farbetween.kinds import is_name, is_whole
from farbetween.machines import MOST_ROOMS, Machine, doors_of, trimmed

HEAVIEST = 1000
START = (0, 0)


def are_unlike(names):
    return len({name for name in names}) == len(names)


def are_signs(thing):
    """Whether this, which may be anything, is a list of unlike signs."""
    return isinstance(thing, list) and all([is_name(sign) for sign in thing]) and are_unlike(thing)


def is_pair(thing):
    """Whether this, which may be anything, is a tuple of two signs."""
    return isinstance(thing, tuple) and len(thing) == 2 and is_name(thing[0]) and is_name(thing[1])


def are_pairs(thing):
    """Whether this, which may be anything, is a list of renamings."""
    if not isinstance(thing, list) or not all([is_pair(pair) for pair in thing]):
        return False
    return are_unlike([elder for elder, newer in thing]) and are_unlike([newer for elder, newer in thing])


def is_weight(thing):
    """Whether this, which may be anything, is a weight of a toss."""
    return is_whole(thing) and 1 <= thing <= HEAVIEST


def are_weights_of_toss(thing):
    """Whether this, which may be anything, is a tuple of two weights of a toss."""
    return isinstance(thing, tuple) and len(thing) == 2 and is_weight(thing[0]) and is_weight(thing[1])


def check_sign(thing):
    if not is_name(thing):
        raise NoSign(thing)


def check_signs(thing):
    if not are_signs(thing):
        raise NoSign(thing)


def found_machine(first, goals_of):
    """The machine of the things that steps lead to from the first one, numbered as found."""
    numbers = {first: 0}
    found = [first]
    steps = []
    at = 0
    while at < len(found):
        for sign, goals in sorted_by_sign(goals_of(found[at])):
            number_new(numbers, found, goals)
            steps.append((at, sign, goals))
        at += 1
    return Machine(len(found), [(room, sign, weights_of(goals, numbers)) for room, sign, goals in steps])


def sorted_by_sign(goals_by_sign):
    return [(sign, goals_by_sign[sign]) for sign in sorted(goals_by_sign)]


def number_new(numbers, found, goals):
    """Give the next numbers to those goals that have a weight and no number yet."""
    for thing, weight in goals:
        if weight > 0 and thing not in numbers:
            if len(found) == MOST_ROOMS:
                raise TooMany(f"there would be more than {MOST_ROOMS} rooms")
            numbers[thing] = len(found)
            found.append(thing)


def weights_of(goals, numbers):
    """The weights of these goals, thing by thing in the order of their numbers; what leads to one thing is added."""
    weights = [0 for thing in numbers]
    for thing, weight in goals:
        if weight > 0:
            weights[numbers[thing]] += weight
    return tuple(weights)


def stop():
    """The machine of one room without steps."""
    return Machine(1, [])


def behind_sign(sign, goals, machines):
    """The machine that has a sign, with these goals, ahead of machines; their things are tuples (number, room).

    Machines are numbered from 1, so that the thing ahead of all of them can have the number 0.
    """
    doors = [doors_of(machine) for machine in machines]

    def goals_of(thing):
        number, room = thing
        if thing == START:
            return {sign: goals}
        return {
            name: [((number, to), weight) for to, weight in enumerate(weights)]
            for name, weights in doors[number - 1][room].items()
        }

    return found_machine(START, goals_of)


def ahead(sign, machine):
    """The machine that does this sign first and is then the one handed in."""
    check_sign(sign)
    return behind_sign(sign, [((1, 0), 1)], [machine])


def toss(sign, weights, one, other):
    """The machine that does this sign first and is then, by the shares of two weights, the one or the other."""
    check_sign(sign)
    if not are_weights_of_toss(weights):
        raise NoSign(weights)
    left, right = weights
    return behind_sign(sign, [((1, 0), left), ((2, 0), right)], [one, other])


def beside(shared, one, other):
    """Both machines side by side; shared signs they do together, other signs either does on its own."""
    check_signs(shared)
    ours = doors_of(one)
    theirs = doors_of(other)

    def goals_of(thing):
        x, y = thing
        return goals_beside(shared, thing, ours[x], theirs[y])

    return found_machine(START, goals_of)


def goals_beside(shared, pair, ours, theirs):
    """The goals of a pair of rooms, by sign; ours and theirs are the doors of both rooms."""
    goals = {}
    for sign in ours:
        if sign in shared and sign in theirs:
            goals[sign] = goals_at_once(ours[sign], theirs[sign])
        elif sign not in shared:
            goals[sign] = goals_of_one(pair, ours[sign], theirs.get(sign, ()))
    for sign in theirs:
        if sign not in shared and sign not in ours:
            goals[sign] = goals_of_one(pair, (), theirs[sign])
    return goals


def goals_at_once(ours, theirs):
    """Where both go on at once by these weights."""
    return [
        ((to, there), weight * other)
        for to, weight in enumerate(ours)
        for there, other in enumerate(theirs)
    ]


def goals_of_one(pair, ours, theirs):
    """Where one of both goes on, as often the one as the other if both can; no weights of one that can't."""
    x, y = pair
    near = sum(theirs) if theirs else 1
    far = sum(ours) if ours else 1
    here = [((to, y), weight * near) for to, weight in enumerate(ours)]
    there = [((x, to), weight * far) for to, weight in enumerate(theirs)]
    return here + there


def only(signs, machine):
    """The machine with the steps by these signs alone, trimmed."""
    check_signs(signs)
    return trimmed(Machine(machine.many, [step for step in machine.steps if step[1] in signs]))


def rename(pairs, machine):
    """The machine with newer names for elder ones, trimmed."""
    if not are_pairs(pairs):
        raise NoSign(pairs)
    newer = {elder: name for elder, name in pairs}
    signs = sorted({sign for room, sign, weights in machine.steps})
    if not are_unlike([newer.get(sign, sign) for sign in signs]):
        raise NoSign(pairs)
    steps = [(room, newer.get(sign, sign), weights) for room, sign, weights in machine.steps]
    return trimmed(Machine(machine.many, steps))
