"""What a fade and a depth are, asked of anything."""

from farbetween.errors import NoDepth, NoFade
from farbetween.kinds import is_whole
from farbetween.shares import Share


def check_fade(thing):
    if not isinstance(thing, Share) or not 0 < thing.top < thing.bottom:
        raise NoFade("a fade is a share above 0 and below 1")


def check_depth(thing, most):
    if not is_whole(thing) or not 0 <= thing <= most:
        raise NoDepth(f"a depth is a whole number from 0 to {most}")
