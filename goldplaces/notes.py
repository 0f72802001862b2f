"""Notes: rows written by figures 1 and 0, with a point behind the figure of the place 0."""

from goldplaces.errors import NoNote, NoRow
from goldplaces.rows import is_row


def shown(row):
    if not is_row(row):
        raise NoRow("only a row can be written")
    greatest = max(row + [0])
    least = min(row + [0])
    whole = figures(row, greatest, 0)
    return whole if least == 0 else whole + "." + figures(row, -1, least)


def read(text):
    row = places_told(text)
    # A row is written in one way alone, so a text unlike what is shown for its places writes none.
    if not is_row(row) or shown(row) != text:
        raise NoNote("this text writes no row")
    return row


def figures(row, greatest, least):
    return "".join(["1" if place in row else "0" for place in range(greatest, least - 1, -1)])


def places_told(text):
    parts = text.partition(".")
    greatest = len(parts[0]) - 1
    # The point takes no place, so behind it the figures go on as if it were not there.
    return [greatest - k for k, figure in enumerate(parts[0] + parts[2]) if figure == "1"]
