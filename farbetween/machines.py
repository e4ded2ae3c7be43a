"""Chance machines: rooms, and steps by signs that lead on to rooms by shares."""

from farbetween.errors import NoMachine, NoRoom, NoSign
from farbetween.kinds import is_name, is_whole
from farbetween.shares import Share, common_part

MOST_ROOMS = 12


class Machine:
    """So many rooms, numbered from 0, where it begins, and the steps from them; once made it never changes."""

    def __init__(self, many, steps):
        if not is_whole(many) or not 1 <= many <= MOST_ROOMS:
            raise NoMachine("many")
        if not are_steps(steps, many):
            raise NoMachine("steps")
        self.many = many
        self.steps = sorted([(room, sign, lowest(weights)) for room, sign, weights in steps])

    def __eq__(self, other):
        return isinstance(other, Machine) and self.many == other.many and self.steps == other.steps

    def __len__(self):
        return len(range(self.many))


def is_room(thing, many):
    """Whether this, which may be anything, is one of so many rooms."""
    return is_whole(thing) and 0 <= thing < many


def are_weights(thing, many):
    """Whether this, which may be anything, is a tuple of so many weights, not all 0."""
    if not isinstance(thing, tuple) or len(thing) != many:
        return False
    return all([is_whole(weight) and weight >= 0 for weight in thing]) and any([weight > 0 for weight in thing])


def is_step(thing, many):
    """Whether this, which may be anything, is a step of a machine of so many rooms."""
    if not isinstance(thing, tuple) or len(thing) != 3:
        return False
    room, sign, weights = thing
    return is_room(room, many) and is_name(sign) and are_weights(weights, many)


def are_steps(thing, many):
    """Whether this, which may be anything, is a list of steps, no two of them of the same room and sign."""
    if not isinstance(thing, list) or not all([is_step(step, many) for step in thing]):
        return False
    return len({(room, sign) for room, sign, weights in thing}) == len(thing)


def lowest(weights):
    """These weights, divided by the greatest number that divides all of them."""
    common = 0
    for weight in weights:
        common = common_part(weight, common)
    return tuple([weight // common for weight in weights])


def check_room(machine, room):
    if not is_room(room, machine.many):
        raise NoRoom(room)


def menu(machine, room):
    """The signs of the steps from this room, sorted as the steps are."""
    check_room(machine, room)
    return [sign for start, sign, weights in machine.steps if start == room]


def heap(machine, room, sign):
    """The shares with which this sign leads from this room to each room; None where it can't be done there."""
    check_room(machine, room)
    if not is_name(sign):
        raise NoSign(sign)
    for start, name, weights in machine.steps:
        if start == room and name == sign:
            whole = sum(weights)
            return [Share(weight, whole) for weight in weights]
    return None


def doors_of(machine):
    """For each room a dict, in order, from the signs of its menu to the weights of their steps."""
    doors = [{} for room in range(machine.many)]
    for room, sign, weights in machine.steps:
        doors[room][sign] = weights
    return doors


def found_rooms(machine):
    """The rooms that can be come to from room 0, in the order in which they are found."""
    found = [0]
    at = 0
    while at < len(found):
        for room, sign, weights in machine.steps:
            if room == found[at]:
                append_new(found, [to for to, weight in enumerate(weights) if weight > 0])
        at += 1
    return found


def append_new(found, rooms):
    for room in rooms:
        if room not in found:
            found.append(room)


def trimmed(machine):
    """The machine of the rooms alone that can be come to from room 0, numbered as found."""
    found = found_rooms(machine)
    numbers = {room: at for at, room in enumerate(found)}
    steps = [
        (numbers[room], sign, tuple([weights[to] for to in found]))
        for room, sign, weights in machine.steps
        if room in numbers
    ]
    return Machine(len(found), steps)
