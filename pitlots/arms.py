"""Arms that dig side by side, each of them by its own deeds.

Behind some turns all is told by the places of the arms, how many deeds each has done: so turns are counted, and the
least are found, place by place.
"""

from pitlots.errors import BadArms, BadTurns
from pitlots.grounds import check_ground, is_block
from pitlots.masks import in_order, lot_of, mask_of
from pitlots.values import is_between, is_tuple_of

MOST_ARMS = 3
MOST_DEEDS = 5
MOST_TURNS = 15


def is_deed(ground, value):
    """Whether a value is a deed."""
    if is_tuple_of(value, 2):
        return value[0] in ("dig", "wait", "stand") and is_block(ground, value[1])
    return value == ("leave",)


def check_arms(ground, arms):
    """Raise BadArms for what is no arms."""
    check_ground(ground)
    if not isinstance(arms, tuple) or not 1 <= len(arms) <= MOST_ARMS:
        raise BadArms(None, None)
    for arm, deeds in enumerate(arms):
        if not isinstance(deeds, tuple) or len(deeds) > MOST_DEEDS:
            raise BadArms(arm, None)
        for place, deed in enumerate(deeds):
            if not is_deed(ground, deed):
                raise BadArms(arm, place)


def dug_at(arms, places):
    """The mask of what is dug when the arms have done so many deeds."""
    done = [deed for deeds, place in zip(arms, places) for deed in deeds[:place]]
    return mask_of([deed[1] for deed in done if deed[0] == "dig"])


def stand_behind(deeds):
    """The block on which an arm stands behind some deeds, None for none."""
    stand = None
    for deed in deeds:
        if deed[0] == "stand":
            stand = deed[1]
        elif deed[0] == "leave":
            stand = None
    return stand


def stands_at(arms, places):
    """The tuple of the blocks on which the arms stand, None for none, when they have done so many deeds."""
    return tuple([stand_behind(deeds[:place]) for deeds, place in zip(arms, places)])


def can_go_on(covers, arms, places, arm):
    """Whether an arm has a next deed that can be done."""
    if places[arm] == len(arms[arm]):
        return False
    deed, stands = arms[arm][places[arm]], stands_at(arms, places)
    if deed[0] == "leave":
        return stands[arm] is not None
    block, dug = deed[1], dug_at(arms, places)
    is_dug = dug >> block & 1 == 1
    if deed[0] == "wait":
        return is_dug
    if deed[0] == "stand":
        return stands[arm] is None and not is_dug
    return not is_dug and mask_of(covers[block]) & ~dug == 0 and block not in stands


def movers(covers, arms, places):
    """The ascending list of the arms that can go on."""
    return [arm for arm in range(len(arms)) if can_go_on(covers, arms, places, arm)]


def moved(places, arm):
    """The places when an arm has done one deed more."""
    return places[:arm] + (places[arm] + 1,) + places[arm + 1:]


def all_done(arms):
    """The places when all deeds are done."""
    return tuple([len(deeds) for deeds in arms])


def checked_places(ground, arms, turns):
    """The places behind turns; raises BadTurns for what is no turns."""
    check_arms(ground, arms)
    if not isinstance(turns, tuple) or len(turns) > MOST_TURNS:
        raise BadTurns(None)
    places = (0,) * len(arms)
    for index, arm in enumerate(turns):
        if not is_between(arm, 0, len(arms) - 1) or not can_go_on(ground.covers, arms, places, arm):
            raise BadTurns(index)
        places = moved(places, arm)
    return places


def least_turns(covers, arms):
    """A dict, for all places that the arms can come to, of the least turns to them, the shorter first.

    All turns to the same places are of one length, so the least ones go on from the least ones.
    """
    level = {(0,) * len(arms): ()}
    found = {}
    while level:
        longer = {}
        for places, turns in level.items():
            found[places] = turns
            for arm in movers(covers, arms, places):
                behind = moved(places, arm)
                longer[behind] = min(longer.get(behind, turns + (arm,)), turns + (arm,))
        level = longer
    return found


def arms_behind(ground, arms, turns):
    """The tuple (pit, places, stands) behind turns."""
    places = checked_places(ground, arms, turns)
    return lot_of(dug_at(arms, places)), places, stands_at(arms, places)


def arms_next(ground, arms, turns):
    """The ascending list of the arms that can go on behind turns."""
    places = checked_places(ground, arms, turns)
    return movers(ground.covers, arms, places)


def arms_whole(ground, arms):
    """The least turns by which all deeds are done, None if there are none."""
    check_arms(ground, arms)
    return least_turns(ground.covers, arms).get(all_done(arms))


def arms_count(ground, arms):
    """By how many turns all deeds are done."""
    check_arms(ground, arms)
    many = {(0,) * len(arms): 1}
    for places in least_turns(ground.covers, arms):
        for arm in movers(ground.covers, arms, places):
            behind = moved(places, arm)
            many[behind] = many.get(behind, 0) + many[places]
    return many.get(all_done(arms), 0)


def arms_stuck(ground, arms):
    """The least of the shortest turns behind which no arm can go on though deeds are left, None if there are none."""
    check_arms(ground, arms)
    stuck = [(len(turns), turns) for places, turns in least_turns(ground.covers, arms).items()
             if places != all_done(arms) and not movers(ground.covers, arms, places)]
    return min(stuck)[1] if stuck else None


def arms_pits(ground, arms):
    """The list of all pits that are dug behind some turns, the smaller first, those of one size ascending."""
    check_arms(ground, arms)
    pits = {lot_of(dug_at(arms, places)): True for places in least_turns(ground.covers, arms)}
    return in_order(list(pits))
