"""Rows of probes: what they leave of choices, and which one told what was not possible."""

from pitlots.checks import GREATEST_WORTH
from pitlots.choices import check_choices
from pitlots.errors import BadProbes
from pitlots.grounds import is_block
from pitlots.probing import narrowed
from pitlots.values import is_between, is_tuple_of

MOST_ENTRIES = 12


def is_entry(ground, value):
    """Whether a value is an entry of a row of probes."""
    if not is_tuple_of(value, 3) or value[0] not in ("told", "changed"):
        return False
    return is_block(ground, value[1]) and is_between(value[2], -GREATEST_WORTH, GREATEST_WORTH)


def check_probes(ground, choices, probes):
    """Raise BadChoices, then BadProbes for what is no row of probes."""
    check_choices(ground, choices)
    if not isinstance(probes, tuple) or len(probes) > MOST_ENTRIES:
        raise BadProbes(None)
    for index, entry in enumerate(probes):
        if not is_entry(ground, entry):
            raise BadProbes(index)


def left_by(ground, choices, probes):
    """The choices that are left behind a row of probes, None if one told what was not possible then."""
    check_probes(ground, choices, probes)
    left = choices
    for word, block, worth in probes:
        if word == "told" and worth not in left[block]:
            return None
        left = narrowed(left, block, worth)
    return left


def first_against(ground, choices, probes):
    """The index of the first probe that told what was not possible then, None if there is none."""
    check_probes(ground, choices, probes)
    left = choices
    for index, (word, block, worth) in enumerate(probes):
        if word == "told" and worth not in left[block]:
            return index
        left = narrowed(left, block, worth)
    return None
