"""How shares, signs and pairs of signs are written as words of a text, and read again.

What reads a word tells None where it can't be read.
"""

from farbetween.figures import number_in
from farbetween.kinds import is_name
from farbetween.shares import Share

NONE = "-"


def share_in(word, most):
    """The share from 0 to 1 that is written so, its numbers having at most so many figures."""
    left, slash, right = word.partition("/")
    top = number_in(left, most)
    bottom = number_in(right, most) if slash else 1
    if top is None or bottom is None or not top <= bottom or bottom == 0:
        return None
    share = Share(top, bottom)
    return share if str(share) == word else None


def signs_in(word):
    """The tuple of the signs that stand in this word, commas between."""
    if word == NONE:
        return ()
    signs = tuple(word.split(","))
    return signs if all([is_name(sign) for sign in signs]) else None


def signs_written(signs):
    return ",".join(signs) if signs else NONE


def pairs_in(word):
    """The tuple of the pairs of signs, elder>newer, that stand in this word, commas between."""
    if word == NONE:
        return ()
    pairs = tuple([tuple(pair.split(">")) for pair in word.split(",")])
    return pairs if all([is_pair_of_signs(pair) for pair in pairs]) else None


def is_pair_of_signs(words):
    return len(words) == 2 and is_name(words[0]) and is_name(words[1])


def pairs_written(pairs):
    return ",".join([f"{elder}>{newer}" for elder, newer in pairs]) if pairs else NONE
