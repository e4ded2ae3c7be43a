"""How whole numbers are written by figures, and read again, whatever their size."""

FIGURES = "0123456789"
PIECE_LENGTH = 64


def are_figures(word, most):
    """Whether this word is a number by figures, at most so many of them, without a nought ahead."""
    if not 1 <= len(word) <= most or not all([figure in FIGURES for figure in word]):
        return False
    return word == "0" or word[0] != "0"


def number_in(word, most):
    """The number that this word, of at most so many figures, stands for; None where it is none such."""
    return int(word) if are_figures(word, most) else None


def written(number):
    """A number by figures, piece by piece: Python itself does not write those of several thousands."""
    if number < 0:
        return "-" + written(-number)
    piece = 10 ** 64
    pieces = []
    while number >= piece:
        number, rest = divmod(number, piece)
        pieces.append(str(rest).zfill(PIECE_LENGTH))
    pieces.append(str(number))
    return "".join(pieces[::-1])
