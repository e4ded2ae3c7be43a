"""How far apart the rooms of two machines are, to no depth but for good.

For each pair of rooms with the same menu a sign is chosen, and for each of its
signs a plan. These make a table, by equations. Signs are exchanged for as long as
that makes some number greater, then plans for as long as they become cheaper.
"""

from farbetween.equations import solved


def settled(fade, meeting):
    """A tuple (rows, bottom): the table, tops over a bottom, by which all that is carried is cheapest."""
    signs = {(x, y): sign for x, y, sign in meeting.hauls}
    rows, bottom = with_best_signs(fade, meeting, signs)
    paid = meeting.all_paid(rows)
    meeting.cheapen_all(rows)
    while meeting.all_paid(rows) != paid:
        rows, bottom = with_best_signs(fade, meeting, signs)
        paid = meeting.all_paid(rows)
        meeting.cheapen_all(rows)
    return rows, bottom


def with_best_signs(fade, meeting, signs):
    """The table that the plans make by those signs that make it greatest; signs become these."""
    rows, bottom = table_by(fade, meeting, signs)
    better = better_signs(fade, meeting, rows)
    while better:
        signs.update(better)
        rows, bottom = table_by(fade, meeting, signs)
        better = better_signs(fade, meeting, rows)
    return rows, bottom


def better_signs(fade, meeting, rows):
    """A dict from pairs to the signs that make their numbers greatest, where these are greater than in the table."""
    better = {}
    most = {}
    for (x, y, sign), paid in meeting.all_paid(rows).items():
        if fade.top * paid > most.get((x, y), rows[x][y] * fade.bottom * meeting.whole):
            most[(x, y)] = fade.top * paid
            better[(x, y)] = sign
    return better


def table_by(fade, meeting, signs):
    """The table that the plans make by these signs."""
    places = {pair: at for at, pair in enumerate(signs)}
    lines = [line_of(fade, meeting, places, x, y, sign) for (x, y), sign in signs.items()]
    tops, bottom = solved(lines)
    rows = [[number * bottom for number in row] for row in meeting.unlike]
    for (x, y), at in places.items():
        rows[x][y] = tops[at]
    return rows, bottom


def line_of(fade, meeting, places, x, y, sign):
    """The equation of a pair: its number is the fade times what this sign carries, each times its own number."""
    haul = meeting.hauls[(x, y, sign)]
    line = [0 for place in places] + [0]
    line[places[(x, y)]] = fade.bottom * haul.grain
    for (row, column), amount in haul.moves.items():
        if (row, column) in places:
            line[places[(row, column)]] -= fade.top * amount
        else:
            line[-1] += fade.top * amount * meeting.unlike[row][column]
    return line
