"""Rows as texts."""

from backorder.checks import need_row
from backorder.errors import BadText

NO_THINGS = "-"


def written(row):
    need_row(row)
    if len(row) == 0:
        return NO_THINGS
    return " ".join([str(thing) for thing in row])


def row_of_figures(parts):
    # Each number is looked up as it is written, and only once: so there is no other way to write it, and none of
    # very many figures is ever worked out.
    numbers = dict([(str(number), number) for number in range(len(parts))])
    row = []
    for part in parts:
        try:
            row.append(numbers.pop(part))
        except KeyError:
            raise BadText("a row's numbers are written once each, in figures, with one blank between") from None
    return row


def read(text):
    if not isinstance(text, str):
        raise BadText("what is read is a text")
    if text == NO_THINGS:
        return []
    return row_of_figures(text.split(" "))
