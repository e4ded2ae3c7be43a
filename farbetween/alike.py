"""Rooms and machines that behave alike, and the least machine of all that do."""

from farbetween.machines import Machine, trimmed
from farbetween.shares import common_multiple


def joint_doors(machines):
    """For each room of all of these, one machine's rooms behind the other's, a dict from its menu to amounts.

    The amounts of a sign are how much of the whole it leads to each room, the whole being the same for
    all rooms and signs: so shares are told apart by whole numbers.
    """
    whole = 1
    for machine in machines:
        for room, sign, weights in machine.steps:
            whole = common_multiple(whole, sum(weights))
    many = sum([machine.many for machine in machines])
    doors = [{} for room in range(many)]
    offset = 0
    for machine in machines:
        ahead = [0 for room in range(offset)]
        behind = [0 for room in range(many - offset - machine.many)]
        for room, sign, weights in machine.steps:
            part = whole // sum(weights)
            doors[offset + room][sign] = ahead + [weight * part for weight in weights] + behind
        offset += machine.many
    return doors


def pieces(rooms, keys):
    """These rooms in lists, those of the same key together, in the order of the keys."""
    return [[room for room in rooms if keys[room] == key] for key in sorted({keys[room] for room in rooms})]


def led_into(amounts, sets):
    """How much of the whole is led into each of these sets of rooms."""
    return [sum([amounts[room] for room in rooms]) for rooms in sets]


def key_of(door, sets):
    """What a room is told apart by: sign by sign and set by set how much is led into it."""
    return tuple([amount for amounts in door.values() for amount in led_into(amounts, sets)])


def parted(doors):
    """The sets of alike rooms, in the order in which they stand once nothing is parted any more."""
    sets = pieces(list(range(len(doors))), [tuple(door) for door in doors])
    many = 0
    while many < len(sets):
        many = len(sets)
        keys = [key_of(door, sets) for door in doors]
        sets = [piece for rooms in sets for piece in pieces(rooms, keys)]
    return sets


def alike_sets(machine):
    """The sets of rooms that are alike, sorted tuples in the order of their first rooms."""
    return sorted([tuple(sorted(rooms)) for rooms in parted(joint_doors([machine]))])


def alike(one, other):
    """Whether the rooms 0 of both machines are alike."""
    return any([0 in rooms and one.many in rooms for rooms in parted(joint_doors([one, other]))])


def least(machine):
    """The machine with one room for each set of alike rooms of the trimmed machine, that of room 0 first."""
    doors = joint_doors([trimmed(machine)])
    sets = parted(doors)
    ordered = [rooms for rooms in sets if 0 in rooms] + [rooms for rooms in sets if 0 not in rooms]
    steps = [
        (at, sign, tuple(led_into(amounts, ordered)))
        for at, rooms in enumerate(ordered)
        for sign, amounts in doors[rooms[0]].items()
    ]
    return Machine(len(ordered), steps)
