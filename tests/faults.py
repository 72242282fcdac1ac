"""What is wrong as a value, and which error it has where.

Each kind of argument has a function that tells the fault of a value: the error that is raised for it, as an object,
None for a value that fits. It is asked of the shape of the first argument: the covers of a ground, the columns and
the rules of a table.
"""

from math import gcd

from pitlots import errors
from pitlots.grounds import Ground
from pitlots.slopes import Table
from tests import calls, plain

PLAIN = (
    -1, 0, 1, 2, 3, 4, 5, 9, 10, 11, 20, 21, 50, 51, 500, 501, 1000001, -50, -51, 2 ** 64, -2 ** 64, 10 ** 400,
    "", "0", "best", "(0,)", True, False, None,
    (), (0,), (1,), (0, 1), (1, 0), (0, 0), (1, 1), (3,), (4,), (10,), (-1,), (2, 4), (0, 1, 2, 3), (3, 2, 1, 0),
    (True,), (False,), (False, True), (0, True), (0, None), (0, "1"), ("0", "1"), (None,), ((),), ((0,),), ((0, 1),),
    ((), ()), ((0,), (1,)), ((0, 1, 1),), ((True, 0, 1),), ((2, 0, (1, 1)),), (0, 0, 0, 0), (0, 0, 0, True),
    (0, 0, 0, "0"), (0, 0, 0, None), (0, 0, 0), (0, 0, 0, 0, 0), (0, 0, 0, 50), (0, 0, 0, 51), (-50, 0, 0, 0),
    (-51, 0, 0, 0), (9, 0, 0, 0), (10, 0, 0, 0), (0, 0, 0, -1), (0, 0, 0, (0,)), (0, 0, 0, 10 ** 400),
    (1, 2), (2, 1), (0, 2), (2, 4), (1, 0), (1, -1), (-1, 1), (True, 1), (1, True), (1000000, 1), (1, 1000000),
    (1000001, 1), (1, 1000001), (1, 1, 1), ("1", 1), (1, None), ((1, 1), (1, 1)), (10 ** 400, 1),
    [], [0], [0, 1], [0, 0, 0, 0], [[0]], [(0, 1)], [()], {}, {0: 0}, {0: 0, 1: 0}, {"best": ()}, {(): ()},
    (0, [1]), ([0],), ([], []), ({},), (0, {1: 1}), ((((0,),),),), [[[{}]]], ("best", ()), ("better", (0,)),
)

# Values that nearly fit where deeds, periods, depths, bounds, choices, probes, shared blocks, logs, hauls or shares are
# wanted.
NEAR = (
    ((), (), (), ()), (("leave",),), ((("leave",),),), ((("leave",),) * 5,), ((("leave",),) * 6,), ((("leave", 0),),),
    ((("dig", 0),),), ((("dig", 4),),), ((), (("dig", 0), ("dig", -1))), ((("dig", True),),), ((("dig",),),),
    ((("dig", 0, 0),),), ((["dig", 0],),), ([("dig", 0)],), [(("dig", 0),)], ((("fill", 0),),), ((("Dig", 0),),),
    ((("wait", 3), ("stand", "0")),), ((("wait", None),), ("wait", 0)), ((), (), (("stand", (0,)),)),
    ((0,), ("dig", 0)),
    (1, 1, 0), (1, 1, 0, 1), (1, 1, 1), (0, 0), (1, 1, 0, 1, 0), (1, 1, 0, 1, 0, 0), (1, 2), (1, -1), (1, "1"),
    (1, None), (0,) * 15, (0,) * 16, (1,) * 16,
    ((0,) * 4,), ((0,) * 4, (0,) * 4), ((0,) * 4,) * 3, ((0,) * 4, (0,) * 3), ((0,) * 4, (0, 0, 0, 25)),
    ((0,) * 4, (0, 0, 0, 26)), ((0, 0, -26, 0), (0,) * 4), ((0,) * 4, [0] * 4), ((0,) * 4, (0, 0, True, 0)),
    [(0,) * 4], ((0,) * 4, None),
    (2, 3, 1), (3, 3, 1), (2, 4, 1), (2, 3, 2), (2, 3), (0, 2, 0), (1, 2, 0), (0, 1, 0), (0, -1, 0), (2, 3, True),
    [0, 0, 0], (0, 0, None), (None, None, None), (None, 2, None), (None, 4, None), (None, True, 0), (None, "2", None),
    (None, None), ((0, 0), (0, 0, 0), (0,)), ((0, 0), (0, 0, 0), (51,)), ((0, 0), (0, 0), (0,)),
    ((0, 0), (0, -51, 0), ()),
    ((0, 0), [0, 0, 0], (0,)), ((0, 0), (0, True, 0), (0,)), ((0, 0), (0, 0, 0)), [(0, 0), (0, 0, 0), (0,)],
    [(0, 0, 0), (2, 3, 1)], [(0, 0, 0), (3, 0, 0)], ((0, 3, 0), (0, 0)), ((0, 3, 0),), ((0, 3, 0),) * 20,
    ((0, 3, 0),) * 21, [(0, 3, 0)] * 20, [(0, 3, 0)] * 21, [(0, 3, 0), [0, 3, 0]], {(0, 3, 0): 0},
    ((0, 0),) * 4, ((0, 0),) * 3, ((0, 0),) * 5, ((0, 0), (1, 0), (0, 0), (0, 0)), ((-50, 50),) * 4,
    ((0, 0), (0, 0), (0, 51), (0, 0)), ((-51, 0), (0, 0), (0, 0), (0, 0)), ((0, 0), (0, 0), (0, 0), (0, True)),
    ((0, 0), (0, 0), [0, 0], (0, 0)), ((0, 0), (0, 0), (0, 0), (0, 1, 2)), [(0, 0)] * 4, ((0, 0), (0, 0), (0, 0), "00"),
    ((0,),) * 4, ((0,), (0, 1), (0, 1, 2), (-50, 50)), ((0,), (0, 1), (0, 1, 2), (0, 1, 2, 3)), ((0,), (), (0,), (0,)),
    ((0,), (0,), (1, 0), (0,)), ((0,), (0,), (0, 0), (0,)), ((0,), (0,), (0,), (51,)), ((-51,), (0,), (0,), (0,)),
    ((0,), (True,), (0,), (0,)), ((0,), [0], (0,), (0,)), [(0,)] * 4, ((0,), (0,), (0,), 0),
    ((0,), (0,), (None,), (0,)),
    (("told", 0, 0),), (("told", 0, 0),) * 12, (("told", 0, 0),) * 13, (("changed", 3, 50), ("told", 4, 0)),
    (("changed", 3, 51),), (("changed", 3, -50), ("changed", 3, -51)), (("told", True, 0),), (("told", 0, True),),
    (("told", 0),), (("told", 0, 0, 0),), (["told", 0, 0],), [("told", 0, 0)], (("tell", 0, 0),), ("told", 0, 0),
    ("dig", (0, 1, 2, 3)), ("dig", ()), ("sure", ()), ("sure", None), ("case", (0, 0, 0, 0), ()), (0, ()), (True, ()),
    ((0, 0), (1, 1)), ((0, 1), (3, 2)), ((0, 0), (1, 0)), ((0, 0), (0, 1)), ((1, 1), (0, 0)), ((3, 2),), ((4, 2),),
    ((3, 3),), ((2, 1), (3, -1)), ((0, True),), ((False, 0),), ([0, 0],), [(0, 0)], ((0, 0, 0),), ((0, 1), (1, 0)),
    ((0, 1), (2, 0)), ((0, 0), None), ("00",), (("0", 0),),
    (0, 1, 2), (0, 1, 2, 2), (0, 0, 0, 4), (0, 0, 0, 3), (1, 2, 3), (0, 3), (2, 3, 4), (2, 3), (2,),
    (0, 2, 1, 1), (0, 2, 2, 0), (0, 2, 1, 0), (1000, -996, 0, 0), (1001, -997, 0, 0), (2, 0, 3, 1), (-1000, 1000, 2, 2),
    (0, 1, 3, 2), (1, 0, 3, 2), (0, 1, 3), (0, 1, 3, 3), (1, 3), (1, 0, 2, 3), (3, 1), (2, 0, 1),
    (("dug", 0),), (("dug", 4),), (("dug", 0), ("dug", -1)), (("dug", True),), (("lost",),) * 5, (("lost",),) * 6,
    (("is", 3),) * 20, (("is", 3),) * 21, (("lost",),) * 4 + (("not", 0), ("lost",), ("lost",)), ("lost",),
    (("lost", 0),), (("lost",), ["lost"]), (["dug", 0],), [("dug", 0)], (("Dug", 0),), (("is",),), (("not", 0, 0),),
    (("dug", 0), ("lost",), ("seen", 1)), (("not", None),), (("dug", "0"),), ((),) * 21,
    (("put", 0, 0),), (("put", 0, 4), ("put", 1, 5)), (("put", 4, 0),), (("put", 1, 3), ("put", 3, 0), ("put", 2, 0)),
    (("put", 0, 0), ("put", 0, 0)), (("put", 0, 0), ("move", 0, 1, 1)), (("put", 0, 0), ("move", 0, 1, 2)),
    (("put", 0, 0), ("move", 0, 0, 1)), (("put", 0, 4), ("move", 4, 0, 1)), (("put", 0, 0), ("move", 0, 1, 0)),
    (("put", 0, 0), ("move", 0, 5, 1)), (("put", 0, 0), ("move", 1, 0, 1)), (("put", 0, 0), ("move", 0, 1, True)),
    (("put", True, 0),), (("put", 0, False),), (("put", 0),), (["put", 0, 0],), [("put", 0, 0)], (("dug", 0, 0),),
    (("put", 0, 0), ("move", 0, 1)), (("put", 0, 0), ("move", 0, "1", 1)), (("put", 0, 0), ("move", False, 1, 1)),
    (("put", 0, 0),) + (("move", 0, 1, 1), ("move", 1, 0, 1)) * 7 + (("put", 1, 0),),
    (("put", 0, 0),) + (("move", 0, 1, 1), ("move", 1, 0, 1)) * 8, ((),) * 16, ((),) * 17,
    (("put", 0, 0),) + (("move", 0, 1, 1),) * 2, (0, 0, 4, 4, 4), (0, 0, 0, 0, 1), (0, 0, 0, 4, 4), (0, 0, 4, 4),
    (0, 0, 4, 4, 4, 4), [0, 0, 4, 4, 4], (False, 0, 4, 4, 4), (0, 0, 0, 0, 0), (0, 0, 4, 4, True), (0, 0, 4, 4, 1),
    ((2, 1), (1, 1), (1, 1), (0, 1)), ((1, 1), (1, 1), (1, 1), (0, 1)), ((3, 2), (1, 2), (2, 1), (0, 1)),
    ((1, 1), (1, 2), (5, 2), (0, 1)),
    ((4, 1), (-1, 1), (1, 1), (0, 1)), ((2, 1), (2, 2), (1, 1), (0, 1)), ((2, 1), (1, 1), (1, 1), (0, 2)),
    ((2, 1), (1, 1), (1, 1)), [(2, 1), (1, 1), (1, 1), (0, 1)], ((2, 1), (1, 1), [1, 1], (0, 1)), ((0, 1),) * 4,
    ((2, 1), (1, 1), (True, 1), (0, 1)), ((2, 1), (1, 1), (1, True), (0, 1)), ((2, 1), (1, 1), (1, 1), (0, -1)),
    ((2, 1), (1, 1), (1, 1), (0, 0)), ((2, 1), (1, 1), (1, 1), 0), ((2, 1), (1, 1), (1, 1), (0, 1, 1)), ((1, 1),) * 4,
    ((10 ** 400, 1), (4 - 10 ** 400, 1), (0, 1), (0, 1)), ((13, 4), (7, 4), (-1, 1), (0, 1)), ((0, 1),) * 5,
)
WRONG = PLAIN + NEAR


def is_integer(value):
    return isinstance(value, int) and value is not True and value is not False


def is_from_to(value, low, high):
    return is_integer(value) and low <= value <= high


def is_tuple_from_to(value, many, low, high):
    return isinstance(value, tuple) and len(value) == many and all(is_from_to(item, low, high) for item in value)


def is_lot(covers, value):
    if not isinstance(value, tuple) or not all(is_from_to(item, 0, len(covers) - 1) for item in value):
        return False
    return list(value) == sorted(set(value))


def is_price(value):
    return is_tuple_from_to(value, 2, 0, 10 ** 6) and value[1] >= 1 and gcd(value[0], value[1]) == 1


def is_order(covers, value, pit):
    if not isinstance(value, tuple) or not all(is_integer(item) for item in value):
        return False
    return sorted(value) == list(pit) and plain.is_row(covers, value)


def is_tuple(value, many):
    return isinstance(value, tuple) and len(value) == many


def are_depths(columns, value):
    return is_tuple(value, len(columns)) and all(is_from_to(depth, 0, most) for depth, most in zip(value, columns))


def is_one_of(value, allowed):
    """Whether a value is one of some plain values; True is not 1 here."""
    return repr(value) in [repr(one) for one in allowed]


def first_wrong(error, values, fits):
    """The error with the index of the first value that does not fit, None if all do."""
    for index, value in enumerate(values):
        if not fits(value):
            return error(index)
    return None


def fault_unless(fits, error):
    """What tells an error without fields of each value that does not fit."""
    return lambda shape, value: None if fits(shape, value) else error()


def fault_of_number(error, low, high):
    """What tells the fault of a value that should be an integer from low to high."""
    return lambda shape, value: None if is_from_to(value, low, high) else error()


def fault_of_row(error, low, high):
    """What tells the fault of a value that should be a tuple of an integer from low to high for each block."""
    return lambda covers, value: None if is_tuple_from_to(value, len(covers), low, high) else error()


def pit_fault(covers, value):
    if not is_lot(covers, value):
        return errors.BadLot()
    return None if plain.is_closed(covers, value) else errors.NotPit()


def arms_fault(covers, value):
    if not isinstance(value, tuple) or len(value) not in (1, 2, 3):
        return errors.BadArms(None, None)
    deeds = [("leave",)] + [(word, block) for word in ("dig", "wait", "stand") for block in range(len(covers))]
    for arm, thing in enumerate(value):
        if not isinstance(thing, tuple) or len(thing) > 5:
            return errors.BadArms(arm, None)
        for place, deed in enumerate(thing):
            if not is_one_of(deed, deeds):
                return errors.BadArms(arm, place)
    return None


def turns_fault(covers, value):
    """That of turns of the arms that the calls tell."""
    if not isinstance(value, tuple) or len(value) > 15:
        return errors.BadTurns(None)
    for index, arm in enumerate(value):
        if not is_one_of(arm, plain.next_arms(covers, calls.ARMS, value[:index])):
            return errors.BadTurns(index)
    return None


def periods_fault(covers, value):
    if not isinstance(value, tuple) or not 1 <= len(value) * len(covers) <= 10:
        return errors.BadPeriods(None)
    return first_wrong(errors.BadPeriods, value, lambda worths: is_tuple_from_to(worths, len(covers), -25, 25))


def seen_fault(shape, value):
    if not isinstance(value, tuple):
        return errors.BadLimits()
    return None if are_depths(shape[0], tuple(0 if depth is None else depth for depth in value)) else errors.BadLimits()


def profiles_fault(shape, value):
    if not isinstance(value, (list, tuple)) or len(value) > 20:
        return errors.BadProfiles(None)
    return first_wrong(errors.BadProfiles, value, lambda row: are_depths(shape[0], row))


def wanted_fault(shape, value):
    if not is_tuple(value, len(shape[0])):
        return errors.BadWanted(None)
    return first_wrong(errors.BadWanted, range(len(value)),
                       lambda column: is_tuple_from_to(value[column], shape[0][column], -50, 50))


def bounds_fault(covers, value):
    if not is_tuple(value, len(covers)):
        return errors.BadBounds(None)
    return first_wrong(errors.BadBounds, value,
                       lambda pair: is_tuple_from_to(pair, 2, -50, 50) and list(pair) == sorted(pair))


def choices_fault(covers, value):
    if not is_tuple(value, len(covers)):
        return errors.BadChoices(None)
    return first_wrong(errors.BadChoices, value, are_some_worths)


def are_some_worths(value):
    if not isinstance(value, tuple) or len(value) not in (1, 2, 3):
        return False
    return is_tuple_from_to(value, len(value), -50, 50) and list(value) == sorted(set(value))


def probes_fault(covers, value):
    if not isinstance(value, tuple) or len(value) > 12:
        return errors.BadProbes(None)
    return first_wrong(errors.BadProbes, value, lambda entry: is_tuple(entry, 3) and is_one_of(
        entry, [(word, block, worth) for word in ("told", "changed")
                for block in range(len(covers)) for worth in range(-50, 51)]))


def added_fault(covers, value):
    """That of refills which with the worths that the calls tell are worths of the doubled ground."""
    if not is_tuple_from_to(value, len(covers), -50, 50):
        return errors.BadRefills()
    fits = all(is_from_to(worth + refill, -50, 50) for worth, refill in zip(calls.WORTHS, value))
    return None if fits else errors.TooHigh()


def shared_fault(covers, value):
    """That of shared blocks of the ground and of the other one that the calls tell."""
    other = calls.OTHER_COVERS
    pairs = [(block, twin) for block in range(len(covers)) for twin in range(len(other))]
    if not isinstance(value, tuple) or not all(is_one_of(pair, pairs) for pair in value):
        return errors.BadShared()
    blocks, twins = [block for block, _ in value], [twin for _, twin in value]
    if blocks != sorted(set(blocks)) or len(set(twins)) < len(twins):
        return errors.BadShared()
    return None if plain.join(covers, other, value) else errors.BadJoin()


def split_fault(covers, value):
    """That of splits of what the owners gain by the worths that the calls tell."""
    if not is_tuple_from_to(value, 4, -1000, 1000):
        return errors.BadSplit()
    gain = max(plain.worth(calls.WORTHS, pit) for pit in plain.pits_of(covers))
    return None if sum(value) == gain else errors.NotWhole()


def part_fault(covers, value):
    return pit_fault(covers, value) or (errors.EmptyLot() if len(value) in (0, len(covers)) else None)


def together_fault(covers, value):
    if not is_lot(covers, value):
        return errors.BadLot()
    if value == ():
        return errors.EmptyLot()
    beside = [block for block in range(len(covers)) if block not in value]
    between = [block for block in beside if plain.needed(covers, block) & set(value)
               and any(block in plain.needed(covers, other) for other in value)]
    return errors.NotTogether() if between else None


def is_dig(covers, value):
    if not isinstance(value, tuple) or not all(is_from_to(item, 0, len(covers) - 1) for item in value):
        return False
    return len(set(value)) == len(value) and plain.is_row(covers, value)


def log_fault(covers, value):
    if not isinstance(value, tuple) or len(value) > 20:
        return errors.BadLog(None)
    entries = [(word, block) for word in ("dug", "is", "not") for block in range(len(covers))]
    lost = 0
    for index, entry in enumerate(value):
        lost += is_one_of(entry, [("lost",)])
        if not is_one_of(entry, entries + [("lost",)]) or lost == 6:
            return errors.BadLog(index)
    return None


def hauls_fault(covers, value):
    if not isinstance(value, tuple) or len(value) > 16:
        return errors.BadHauls(None)
    heaps = [0] * 5
    for index, haul in enumerate(value):
        put = {block for word, block, *_ in value[:index] if word == "put"}
        fits = [("put", block, heap) for block in range(len(covers)) for heap in range(5)
                if block not in put and plain.needed(covers, block) <= put]
        fits += [("move", heap, other, many) for heap in range(4) for other in range(5) if heap != other
                 for many in range(1, heaps[heap] + 1)]
        if not is_one_of(haul, fits):
            return errors.BadHauls(index)
        heaps[haul[2]] += 1 if haul[0] == "put" else haul[3]
        if haul[0] == "move":
            heaps[haul[1]] -= haul[3]
    return None


def is_lowest(value):
    """Whether a value is a fraction."""
    if not isinstance(value, tuple) or len(value) != 2 or not all(is_integer(part) for part in value):
        return False
    return value[1] > 0 and plain.pair(plain.fraction_of(value)) == value


def shares_fault(covers, value):
    """That of shares of what the owners gain by the worths that the calls tell."""
    if not is_tuple(value, 4) or not all(is_lowest(share) for share in value):
        return errors.BadShares()
    gains = {party: plain.gain(covers, calls.WORTHS, calls.OWNERS, party) for party in plain.PARTIES}
    sums = {party: sum(plain.fraction_of(value[owner]) for owner in party) for party in plain.PARTIES}
    if sums[0, 1, 2, 3] != gains[0, 1, 2, 3]:
        return errors.NotWhole()
    return None if all(gains[party] <= sums[party] for party in gains) else errors.NotHeld()


FAULTS = {
    "any": lambda shape, value: None,
    "ground": fault_unless(lambda covers, value: isinstance(value, Ground), errors.BadGround),
    "block": fault_unless(lambda covers, value: is_from_to(value, 0, len(covers) - 1), errors.BadBlock),
    "order": fault_unless(lambda covers, value: is_order(covers, value, range(len(covers))), errors.BadOrder),
    "lot": fault_unless(is_lot, errors.BadLot),
    "pit": pit_fault,
    "worths": fault_of_row(errors.BadWorths, -50, 50),
    "gains": fault_of_row(errors.BadGains, 0, 9),
    "costs": fault_of_row(errors.BadCosts, 0, 50),
    "growths": fault_of_row(errors.BadGrowths, 0, 9),
    "refills": fault_of_row(errors.BadRefills, -50, 50),
    "price": fault_unless(lambda covers, value: is_price(value), errors.BadPrice),
    "target": fault_of_number(errors.BadTarget, 0, 500),
    "years": fault_of_number(errors.BadYears, 0, 20),
    "purse": fault_of_number(errors.BadPurse, 0, 500),
    "purse_from_1": fault_of_number(errors.BadPurse, 1, 500),
    "machines": fault_of_number(errors.BadMachines, 1, 4),
    "rounds": fault_of_number(errors.BadRounds, 0, 10),
    "arms": arms_fault,
    "periods": periods_fault,
    "table": fault_unless(lambda shape, value: isinstance(value, Table), errors.BadTable),
    "column": fault_unless(lambda shape, value: is_from_to(value, 0, len(shape[0]) - 1), errors.BadColumn),
    "cell": fault_unless(lambda shape, value: is_from_to(value, 0, sum(shape[0]) - 1), errors.BadBlock),
    "profile": fault_unless(lambda shape, value: is_one_of(value, plain.profiles(*shape)), errors.BadProfile),
    "limits": fault_unless(lambda shape, value: are_depths(shape[0], value), errors.BadLimits),
    "cells": lambda shape, value: pit_fault(plain.covers_of(*shape), value),
    "doubled_pit": lambda covers, value: pit_fault(plain.doubled(covers), value),
    "bounds": bounds_fault,
    "choices": choices_fault,
    "many": fault_of_number(errors.BadMany, 0, 10),
    "probes": probes_fault,
    "seen": seen_fault,
    "profiles": profiles_fault,
    "wanted": wanted_fault,
    "owners": fault_of_row(errors.BadOwners, 0, 3),
    "party": fault_unless(lambda covers, value: is_lot(range(4), value), errors.BadParty),
    "owner": fault_of_number(errors.BadOwner, 0, 3),
    "owner_row": fault_unless(lambda covers, value: is_order(((),) * 4, value, range(4)), errors.BadOwnerRow),
    "part": part_fault,
    "together": together_fault,
    "dig": fault_unless(is_dig, errors.BadDig),
    "log": log_fault,
    "hauls": hauls_fault,
    "heap": fault_of_number(errors.BadHeap, 0, 4),
    "other_ground": fault_unless(lambda covers, value: isinstance(value, Ground), errors.BadGround),
    # Those from here on hang on the arguments ahead: they are asked for the arguments that the calls tell alone.
    "number": fault_of_number(errors.BadPlace, 0, 4),
    "row": fault_unless(lambda covers, value: is_order(covers, value, (0, 1, 2, 3)), errors.BadRow),
    # No wrong value here is a sharing of the costs that the calls tell.
    "sharing": lambda covers, value: errors.BadSharing(),
    "turns": turns_fault,
    "depth": fault_of_number(errors.BadDepth, 1, 3),
    # No column of the profile that the calls tell is dug whole.
    "free_column": fault_unless(lambda shape, value: is_from_to(value, 0, len(shape[0]) - 1), errors.BadColumn),
    # What is dug is all, so whatever pit lies within.
    "open": pit_fault,
    "added": added_fault,
    "split": split_fault,
    "shares": shares_fault,
    "shared": shared_fault,
    "more": lambda covers, value: None if is_tuple_from_to(value, 3, -50, 50) else errors.BadWorths(),
}
HANGING = {"number", "row", "sharing", "turns", "depth", "free_column", "open", "added", "split", "shared", "more",
           "shares"}
