"""Sayings by worths: what they are worth, how deep they are, and one that tells two machines apart."""

from farbetween.books import book_grain, check_book, depths_of, level_of
from farbetween.errors import TooMany
from farbetween.fades import check_depth, check_fade
from farbetween.levels import shares_at
from farbetween.machines import doors_of
from farbetween.tellers import Teller

DEEPEST_TELLING = 4
MOST_ROOMS_TOLD = 6


def worths(book, fade, machine):
    """For each row of the book the list of its worths, room by room."""
    check_fade(fade)
    check_book(book)
    doors = doors_of(machine)
    grain = book_grain(book, fade, doors)
    levels = []
    for row in book:
        levels.append(level_of(row, fade, doors, levels, grain))
    return [shares_at(level, grain) for level in levels]


def worth(book, fade, machine):
    """The worth of the book's last row at room 0."""
    return worths(book, fade, machine)[-1][0]


def deep(book):
    """The depth of the book's last row."""
    check_book(book)
    return depths_of(book)[-1]


def telling(fade, one, other, depth):
    """A book that is worth more at the one than at the other, by just as much as they are apart to this depth."""
    check_fade(fade)
    check_depth(depth, DEEPEST_TELLING)
    if one.many + other.many > MOST_ROOMS_TOLD:
        raise TooMany(f"both machines have more than {MOST_ROOMS_TOLD} rooms together")
    return Teller(fade, one, other, depth).told(depth, 0, one.many)
