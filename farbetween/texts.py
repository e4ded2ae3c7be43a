"""Texts of machines."""

from farbetween.errors import NoText
from farbetween.figures import number_in, written
from farbetween.kinds import is_name
from farbetween.machines import MOST_ROOMS, Machine, are_weights, is_room, lowest

MOST_FIGURES = 100
BREAK = "/"


def show(machine):
    """The text of a machine."""
    words = [str(machine.many)]
    for room, sign, weights in machine.steps:
        words += [BREAK, str(room), sign] + [written(weight) for weight in weights]
    return " ".join(words)


def read(text):
    """The machine of this text."""
    if not isinstance(text, str):
        raise NoText(None)
    words = text.split(" ")
    many = number_in(words[0], MOST_FIGURES)
    if many is None or not 1 <= many <= MOST_ROOMS:
        raise NoText(0)
    steps = []
    at = 1
    while at < len(words):
        step = read_step(words, at, many)
        at += 3 + many
        if not stands_behind(step, steps) or not are_lowest(step[2], many):
            raise NoText(at - 1)
        steps.append(step)
    return Machine(many, steps)


def read_step(words, at, many):
    """The step, of a machine of so many rooms, whose words begin at this one."""
    if words[at] != BREAK:
        raise NoText(at)
    room = number_at(words, at + 1)
    if not is_room(room, many):
        raise NoText(at + 1)
    sign = word_at(words, at + 2)
    if not is_name(sign):
        raise NoText(at + 2)
    return room, sign, tuple([number_at(words, at + 3 + to) for to in range(many)])


def word_at(words, at):
    """The word of this number, refused where there is none by how many there are."""
    if at >= len(words):
        raise NoText(len(words))
    return words[at]


def number_at(words, at):
    number = number_in(word_at(words, at), MOST_FIGURES)
    if number is None:
        raise NoText(at)
    return number


def stands_behind(step, steps):
    """Whether a step stands, by room and sign, behind the last of these."""
    return not steps or steps[-1][:2] < step[:2]


def are_lowest(weights, many):
    """Whether these are weights of a step as a machine has them: not all 0, and no number but 1 divides them all."""
    return are_weights(weights, many) and lowest(weights) == weights
