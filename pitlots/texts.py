"""Grounds with worths as texts."""

from pitlots.checks import GREATEST_WORTH, check_worths
from pitlots.errors import InvalidText
from pitlots.grounds import MOST_BLOCKS, Ground

# How many words a line has without needs, and the places of its worth and of its first need among them.
FEWEST_WORDS = 4
WORTH_PLACE = 3
FIRST_NEED_PLACE = 5


def line_of(block, worth, firsts):
    """The line of a block."""
    words = ["block", str(block), "worth", str(worth)]
    if firsts:
        words = words + ["needs"] + [str(first) for first in firsts]
    return " ".join(words)


def write(ground, worths):
    """The text of a ground with worths."""
    check_worths(ground, worths)
    lines = [line_of(block, worths[block], firsts) for block, firsts in enumerate(ground.covers)]
    return "\n".join(lines)


def numbers_from(low, high):
    """The list of the integers from low to high, as they are written."""
    return [str(number) for number in range(low, high + 1)]


def words_at(block, words, place):
    """The list of the words that can stand at a place of the line of a block, behind those ahead of it."""
    if block == MOST_BLOCKS:
        return []
    needs = ["needs"] if block > 0 else []
    told = [["block"], [str(block)], ["worth"], numbers_from(-GREATEST_WORTH, GREATEST_WORTH), needs]
    if place < FIRST_NEED_PLACE:
        return told[place]
    low = int(words[place - 1]) + 1 if place > FIRST_NEED_PLACE else 0
    return numbers_from(low, block - 1)


def first_wrong(block, words):
    """The place, from 0, of the first word that cannot stand in the line of a block, None if all can.

    It is the number of the words if they end too early.
    """
    for place, word in enumerate(words):
        if word not in words_at(block, words, place):
            return place
    return len(words) if len(words) < FEWEST_WORDS or len(words) == FIRST_NEED_PLACE else None


def read(text):
    """The pair of the ground and the worths of a text; what is no string cannot stand as a first line."""
    if not isinstance(text, str):
        raise InvalidText(1, 1)
    covers, worths = [], []
    for block, line in enumerate(text.split("\n")):
        # Just spaces stand between words: split() would part them at other blanks, too.
        words = [word for word in line.split(" ") if word]
        place = first_wrong(block, words)
        if place is not None:
            raise InvalidText(block + 1, place + 1)
        covers.append(tuple([int(word) for word in words[FIRST_NEED_PLACE:]]))
        worths.append(int(words[WORTH_PLACE]))
    return Ground(tuple(covers)), tuple(worths)
