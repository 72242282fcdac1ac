"""Rows of a pit: all its blocks, each behind all that it needs."""

from pitlots.checks import check_pit
from pitlots.errors import BadPlace, BadRow
from pitlots.grounds import is_whole_row
from pitlots.masks import mask_of, masks_within, next_within
from pitlots.values import is_between


def rows_left(covers, whole):
    """A dict, for each pit within a pit, of how many rows of the rest there are when it is dug."""
    left = {whole: 1}
    for pit in reversed(masks_within(covers, whole)):
        if pit != whole:
            left[pit] = sum([left[pit | 1 << block] for block in next_within(covers, pit, whole)])
    return left


def count_rows(ground, pit):
    """How many rows a pit has."""
    check_pit(ground, pit)
    return rows_left(ground.covers, mask_of(pit))[0]


def row_at(ground, pit, number):
    """The row of a pit with a number, counted from 0 in ascending order."""
    check_pit(ground, pit)
    whole = mask_of(pit)
    left = rows_left(ground.covers, whole)
    if not is_between(number, 0, left[0] - 1):
        raise BadPlace()
    row, dug = [], 0
    while dug != whole:
        ahead = 0
        for block in next_within(ground.covers, dug, whole):
            many = left[dug | 1 << block]
            if number < ahead + many:
                row.append(block)
                break
            ahead += many
        number -= ahead
        dug |= 1 << row[-1]
    return tuple(row)


def place_of(ground, pit, row):
    """The number of a row of a pit."""
    check_pit(ground, pit)
    whole = mask_of(pit)
    if not is_whole_row(ground.covers, row, whole):
        raise BadRow()
    left = rows_left(ground.covers, whole)
    place, dug = 0, 0
    for block in row:
        lesser = [other for other in next_within(ground.covers, dug, whole) if other < block]
        place += sum([left[dug | 1 << other] for other in lesser])
        dug |= 1 << block
    return place
