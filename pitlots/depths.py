"""How deep columns can be dug, what holds them, and which profiles are worth most."""

from pitlots.errors import AtBottom, BadLimits, BadProfiles, BadWanted
from pitlots.slopes import Table, are_depths, check_column, check_profile, check_table
from pitlots.slopes import is_profile_of, lead_over, neighbours, profiles_of
from pitlots.values import are_between, is_tuple_of

MOST_ROWS = 20
GREATEST_CELL_WORTH = 50


def check_limits(table, limits):
    """Raise BadTable, then BadLimits, for what is no table, or no limits of it."""
    check_table(table)
    if not are_depths(table.columns, limits):
        raise BadLimits()


def depths_let(table, limits, column):
    """For each column how deep its limit lets a column be."""
    return [limit + lead_over(table, column, other) for other, limit in enumerate(limits)]


def depths_asked(table, limits, column):
    """For each column how deep a column must be if that one is as deep as its limit."""
    return [limit - lead_over(table, other, column) for other, limit in enumerate(limits)]


def shallowest_of(table, limits):
    """The profile in which each column is as deep as its limit, and as shallow as it can be."""
    return tuple([max(depths_asked(table, limits, column)) for column in range(len(limits))])


def deepest(table, limits):
    """The profile, each column at most as deep as its limit, in which each is as deep as in any such."""
    check_limits(table, limits)
    return tuple([min(depths_let(table, limits, column)) for column in range(len(limits))])


def shallowest(table, limits):
    """The profile, each column at least as deep as its limit, in which each is as shallow as in any such."""
    check_limits(table, limits)
    return shallowest_of(table, limits)


def slack(table, one, other):
    """By how much one column may be deeper than another one."""
    check_table(table)
    check_column(table, one)
    check_column(table, other)
    return lead_over(table, one, other)


def holder(table, limits, column):
    """The least column whose limit is what lets a column be no deeper than in deepest."""
    check_limits(table, limits)
    check_column(table, column)
    depths = depths_let(table, limits, column)
    return depths.index(min(depths))


def holders_in(table, profile, column):
    """The ascending list of the columns that hold a column in a profile."""
    if profile[column] == table.columns[column]:
        return []
    return [other for other in neighbours(table, column)
            if profile[column] - profile[other] == lead_over(table, column, other)]


def held_by(table, profile, column):
    """The ascending list of the columns that hold a column."""
    check_profile(table, profile)
    check_column(table, column)
    return holders_in(table, profile, column)


def open_columns(table, profile):
    """The ascending list of the columns that can be dug one deeper."""
    check_profile(table, profile)
    return [column for column, cells in enumerate(table.columns)
            if profile[column] < cells and not holders_in(table, profile, column)]


def ridges(table, profile):
    """The ascending list of the columns that hold some other one."""
    check_profile(table, profile)
    holding = [other for column in range(len(profile)) for other in holders_in(table, profile, column)]
    return sorted(set(holding))


def deepened(table, profile, column):
    """The least profile in which a column is one deeper, and none less deep."""
    check_profile(table, profile)
    check_column(table, column)
    if profile[column] == table.columns[column]:
        raise AtBottom()
    return shallowest_of(table, profile[:column] + (profile[column] + 1,) + profile[column + 1:])


def flattest(table, rows):
    """The table with the least rules by which all of some rows, and the whole columns, are profiles."""
    check_table(table)
    if not isinstance(rows, (list, tuple)) or len(rows) > MOST_ROWS:
        raise BadProfiles(None)
    for index, row in enumerate(rows):
        if not are_depths(table.columns, row):
            raise BadProfiles(index)
    kept = [table.columns] + list(rows)
    return Table(table.columns, tuple([least_rule(kept, index) for index in range(len(table.rules))]))


def least_rule(rows, index):
    """The least rule for a column and the next one by which all of some rows are profiles."""
    leads = [row[index] - row[index + 1] for row in rows]
    return max(1, max(leads)), max(1, -min(leads))


def is_flatter(table, other):
    """Whether all profiles of a table are profiles of another one."""
    check_table(table)
    check_table(other)
    return all([is_profile_of(other, profile) for profile in profiles_of(table)])


def between(table, seen):
    """The tuple of the least and the greatest depth of each column in all profiles with the depths that are seen.

    None if there are none.
    """
    check_table(table)
    if not is_tuple_of(seen, len(table.columns)):
        raise BadLimits()
    if not are_depths(table.columns, tuple([0 if depth is None else depth for depth in seen])):
        raise BadLimits()
    found = [profile for profile in profiles_of(table) if is_as_seen(profile, seen)]
    if not found:
        return None
    return tuple([(min(depths), max(depths)) for depths in columns_of(found)])


def is_as_seen(profile, seen):
    """Whether a profile has the depths that are seen."""
    return all([told is None or depth == told for depth, told in zip(profile, seen)])


def columns_of(profiles):
    """For each column the list of its depths in some profiles."""
    return [[profile[column] for profile in profiles] for column in range(len(profiles[0]))]


def check_wanted(table, worths):
    """Raise BadTable, then BadWanted, for what is no table, or no worths of its cells."""
    check_table(table)
    if not is_tuple_of(worths, len(table.columns)):
        raise BadWanted(None)
    for index, cells in enumerate(table.columns):
        if not are_between(worths[index], cells, -GREATEST_CELL_WORTH, GREATEST_CELL_WORTH):
            raise BadWanted(index)


def best_profile(table, worths):
    """The tuple (worth, least, greatest): what the best profiles are worth, the least and the greatest of them."""
    check_wanted(table, worths)
    found = {profile: worth_dug(profile, worths) for profile in profiles_of(table)}
    most = max(list(found.values()))
    depths = columns_of([profile for profile in found if found[profile] == most])
    return most, tuple([min(column) for column in depths]), tuple([max(column) for column in depths])


def worth_dug(profile, worths):
    """What the dug cells of a profile are worth together."""
    return sum([sum(column[:depth]) for depth, column in zip(profile, worths)])
