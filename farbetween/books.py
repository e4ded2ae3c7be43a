"""Books of sayings: what a book is, how deep its rows are, and the levels of their worths."""

from farbetween.errors import NoBook
from farbetween.kinds import is_name, is_whole
from farbetween.levels import even_level, grain_of, lowered, same_bottoms, stepped
from farbetween.shares import Share, common_multiple

# What stands behind the first word of a row.
FORMS = {
    "one": (),
    "can": ("sign",),
    "on": ("sign", "number"),
    "not": ("number",),
    "less": ("number", "share"),
    "both": ("number", "number"),
    "either": ("number", "number"),
}


def is_such(thing, kind, at):
    """Whether this, which may be anything, is of this kind, in the row of this number."""
    if kind == "sign":
        return is_name(thing)
    if kind == "number":
        return is_whole(thing) and 0 <= thing < at
    return isinstance(thing, Share) and 0 <= thing.top <= thing.bottom


def is_row(thing, at):
    """Whether this, which may be anything, is a row that can stand at this number in a book."""
    if not isinstance(thing, tuple) or len(thing) == 0 or not isinstance(thing[0], str) or thing[0] not in FORMS:
        return False
    kinds = FORMS[thing[0]]
    if len(thing) != 1 + len(kinds):
        return False
    return all([is_such(each, kind, at) for each, kind in zip(thing[1:], kinds)])


def check_book(thing):
    if not isinstance(thing, list) or len(thing) == 0:
        raise NoBook("a book is a list of one row at least")
    if not all([is_row(row, at) for at, row in enumerate(thing)]):
        raise NoBook("not all rows of this are such as may stand in a book")


def depths_of(book):
    """How deep each row of a book is."""
    depths = []
    for row in book:
        named = [depths[number] for number, kind in zip(row[1:], FORMS[row[0]]) if kind == "number"]
        depths.append(max(named + [0]) + int(row[0] in ("can", "on")))
    return depths


def book_grain(book, fade, doors):
    """The grain of all worths of a book at these doors."""
    grain = common_multiple(grain_of(doors), fade.bottom)
    for row in book:
        if row[0] == "less":
            grain = common_multiple(grain, row[2].bottom)
    return grain


def level_of(row, fade, doors, levels, grain):
    """The level of the worths of a row at the rooms of these doors, those of the rows ahead being known."""
    word = row[0]
    if word == "one":
        return even_level(1, len(doors))
    if word == "can":
        return [int(row[1] in door) for door in doors], 1
    if word == "on":
        return lowered(faded(fade, stepped(doors, row[1], levels[row[2]])), grain)
    level = levels[row[1]]
    if word == "not":
        return inverse(level)
    if word == "less":
        return lowered(lessened(level, row[2]), grain)
    ours, theirs, bottom = same_bottoms(level, levels[row[2]])
    if word == "both":
        return lowered(([min(one, other) for one, other in zip(ours, theirs)], bottom), grain)
    return lowered(([max(one, other) for one, other in zip(ours, theirs)], bottom), grain)


def faded(fade, level):
    tops, bottom = level
    return [top * fade.top for top in tops], bottom * fade.bottom


def inverse(level):
    """1 less each number of a level."""
    tops, bottom = level
    return [bottom - top for top in tops], bottom


def lessened(level, share):
    """Each number of a level less the share, 0 where this is below 0."""
    tops, lower, bottom = same_bottoms(level, ([share.top], share.bottom))
    return [max(0, top - lower[0]) for top in tops], bottom
