"""The desk: a house that is told rows, and answers each by a text."""

from farbetween.alike import alike, least
from farbetween.apart import apart, distance
from farbetween.depths import apart_to
from farbetween.errors import NoRow
from farbetween.figures import are_figures, number_in
from farbetween.house import House
from farbetween.shares import Share
from farbetween.spelling import NONE, share_in, signs_in
from farbetween.texts import read, show
from farbetween.words import chance, farthest_word

MOST_FIGURES = 9

# What stands behind the first word of a row; a text is one word or more, up to the row's end.
FORMS = {
    "part": ("name", "text"),
    "whole": ("name", "text"),
    "swap": ("share", "name", "text"),
    "back": (),
    "show": ("name",),
    "first": ("name",),
    "least": ("name",),
    "text": ("name",),
    "drift": ("name",),
    "apart": ("name", "name"),
    "table": ("name", "name"),
    "depth": ("number", "name", "name"),
    "alike": ("name", "name"),
    "chance": ("name", "signs"),
    "word": ("number", "name", "name"),
    "parts": (),
    "wholes": (),
}


def words_in(row):
    """The words of this row, which may be anything; refused where it is none that the desk answers."""
    if not isinstance(row, str):
        raise NoRow("a row is a text")
    words = row.split(" ")
    if words[0] not in FORMS:
        raise NoRow("no row begins so")
    kinds = FORMS[words[0]]
    if len(words) <= len(kinds) or len(words) > 1 + len(kinds) and "text" not in kinds:
        raise NoRow("the row has a word too few or too many")
    if not all([has_form(word, kind) for word, kind in zip(words[1:], kinds)]):
        raise NoRow("a word of the row is not written as it should be")
    return words


def has_form(word, kind):
    """Whether this word is written as what it should be; names and texts are looked at later."""
    if kind == "share":
        return share_in(word, MOST_FIGURES) is not None
    if kind == "number":
        return are_figures(word, MOST_FIGURES)
    if kind == "signs":
        return signs_in(word) is not None
    return True


def or_none(text):
    """This text, or what stands for none."""
    return text if text else NONE


def text_of_table(table):
    return " / ".join([" ".join([str(share) for share in row]) for row in table])


def both_machines(house, words):
    """The machines of the last two words, which are names."""
    one = house.machine_of(words[-2])
    other = house.machine_of(words[-1])
    return one, other


def say_part(house, words):
    machine = read(" ".join(words[2:]))
    house.put(words[1], machine)
    return "ok"


def say_whole(house, words):
    house.keep(words[1], " ".join(words[2:]))
    return "ok"


def say_swap(house, words):
    machine = read(" ".join(words[3:]))
    house.swap(words[2], machine, share_in(words[1], MOST_FIGURES))
    return "ok"


def say_back(house, words):
    return or_none(house.back())


def say_show(house, words):
    return show(house.machine_of(words[1]))


def say_first(house, words):
    return show(house.first(words[1]))


def say_least(house, words):
    return show(least(house.machine_of(words[1])))


def say_text(house, words):
    return house.text_of(words[1])


def say_drift(house, words):
    return str(house.drift(words[1]))


def say_apart(house, words):
    one, other = both_machines(house, words)
    return str(distance(house.fade, one, other))


def say_table(house, words):
    one, other = both_machines(house, words)
    return text_of_table(apart(house.fade, one, other))


def say_depth(house, words):
    one, other = both_machines(house, words)
    return text_of_table(apart_to(house.fade, one, other, number_in(words[1], MOST_FIGURES)))


def say_alike(house, words):
    one, other = both_machines(house, words)
    return "yes" if alike(one, other) else "no"


def say_chance(house, words):
    return str(chance(house.machine_of(words[1]), list(signs_in(words[2]))))


def say_word(house, words):
    one, other = both_machines(house, words)
    share, word = farthest_word(house.fade, one, other, number_in(words[1], MOST_FIGURES))
    return " ".join([str(share)] + word)


def say_parts(house, words):
    return or_none(" ".join(house.parts()))


def say_wholes(house, words):
    return or_none(" ".join(house.wholes()))


ANSWERS = {
    "part": say_part,
    "whole": say_whole,
    "swap": say_swap,
    "back": say_back,
    "show": say_show,
    "first": say_first,
    "least": say_least,
    "text": say_text,
    "drift": say_drift,
    "apart": say_apart,
    "table": say_table,
    "depth": say_depth,
    "alike": say_alike,
    "chance": say_chance,
    "word": say_word,
    "parts": say_parts,
    "wholes": say_wholes,
}


class Desk:
    """A house by the fade 1/2, told row by row."""

    def __init__(self):
        self.house = House(Share(1, 2))

    def say(self, row):
        """The answer to this row."""
        words = words_in(row)
        answer = ANSWERS[words[0]]
        return answer(self.house, words)
