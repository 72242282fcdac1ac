"""Tables of columns of cells, of which rules tell how much deeper one may be dug than the one beside it."""

from pitlots.checks import check_pit
from pitlots.errors import BadBlock, BadColumn, BadColumns, BadDepth, BadProfile, BadRules, BadTable, TooSteep
from pitlots.grounds import Ground
from pitlots.values import are_between, is_between, is_tuple_of

MOST_COLUMNS = 5
MOST_CELLS = 10
GREATEST_LEAD = 9


class Table:
    """A table; columns is a tuple of how many cells each column has, rules one of a pair for each two side by side."""

    def __init__(self, columns, rules):
        check_columns(columns)
        check_rules(columns, rules)
        self.columns = columns
        self.rules = rules

    def __eq__(self, other):
        return isinstance(other, Table) and self.columns == other.columns and self.rules == other.rules


def check_columns(columns):
    """Raise BadColumns for what is no columns."""
    if not isinstance(columns, tuple) or not 1 <= len(columns) <= MOST_COLUMNS:
        raise BadColumns()
    if not are_between(columns, len(columns), 1, MOST_CELLS) or sum(columns) > MOST_CELLS:
        raise BadColumns()


def check_rules(columns, rules):
    """Raise BadRules for what is no rules of columns, TooSteep if the columns cannot be dug whole by them."""
    if not is_tuple_of(rules, len(columns) - 1):
        raise BadRules(None)
    for index, rule in enumerate(rules):
        if not are_between(rule, 2, 1, GREATEST_LEAD):
            raise BadRules(index)
    for index in range(len(rules)):
        if not is_rule_kept(rules, index, columns):
            raise TooSteep(index)


def is_rule_kept(rules, index, depths):
    """Whether some depths keep one of the rules."""
    first, second = rules[index]
    return -second <= depths[index] - depths[index + 1] <= first


def lead_over(table, one, other):
    """By how much a column may be deeper than another one: what the rules between them let, together."""
    if one <= other:
        return sum([first for first, _ in table.rules[one:other]])
    return sum([second for _, second in table.rules[other:one]])


def neighbours(table, column):
    """The ascending list of the columns beside a column."""
    return [other for other in (column - 1, column + 1) if 0 <= other < len(table.columns)]


def check_table(table):
    """Raise BadTable for what is no table."""
    if not isinstance(table, Table):
        raise BadTable()


def check_column(table, column):
    """Raise BadColumn for what is no column of a table."""
    if not is_between(column, 0, len(table.columns) - 1):
        raise BadColumn()


def check_profile(table, profile):
    """Raise BadTable, then BadProfile, for what is no table, or no profile of it."""
    check_table(table)
    if not is_profile_of(table, profile):
        raise BadProfile()


def are_depths(columns, value):
    """Whether a value is a tuple of how deep each column is dug, by whatever rules."""
    if not is_tuple_of(value, len(columns)):
        return False
    return all([is_between(depth, 0, cells) for depth, cells in zip(value, columns)])


def is_profile_of(table, value):
    """Whether a value is a profile of what is a table."""
    if not are_depths(table.columns, value):
        return False
    return all([is_rule_kept(table.rules, index, value) for index in range(len(table.rules))])


def profiles_of(table):
    """The ascending list of all profiles."""
    found = [()]
    for column, cells in enumerate(table.columns):
        longer = [depths + (depth,) for depths in found for depth in range(cells + 1)]
        found = [depths for depths in longer if column == 0 or is_rule_kept(table.rules, column - 1, depths)]
    return found


def cells_of(table):
    """The list of the pairs (column, depth) of all cells, in the order of their blocks."""
    deepest_one = max(table.columns)
    return [(column, depth) for depth in range(1, deepest_one + 1)
            for column, cells in enumerate(table.columns) if depth <= cells]


def block_at(table, column, depth):
    """The block of a cell."""
    check_table(table)
    check_column(table, column)
    if not is_between(depth, 1, table.columns[column]):
        raise BadDepth()
    return cells_of(table).index((column, depth))


def cell_of(table, block):
    """The tuple (column, depth) of a block."""
    check_table(table)
    if not is_between(block, 0, sum(table.columns) - 1):
        raise BadBlock()
    return cells_of(table)[block]


def ground_of(table):
    """The ground of a table's cells."""
    check_table(table)
    cells = cells_of(table)
    covers = []
    for column, depth in cells:
        ahead = [(column, depth - 1)]
        for other in neighbours(table, column):
            ahead.append((other, depth - lead_over(table, column, other)))
        # Where a depth is not above 0, nothing must be dug ahead.
        covers.append(tuple(sorted([cells.index(cell) for cell in ahead if cell[1] > 0])))
    return Ground(tuple(covers))


def is_profile(table, value):
    """Whether any value is a profile."""
    check_table(table)
    return is_profile_of(table, value)


def all_profiles(table):
    """The ascending list of all profiles."""
    check_table(table)
    return profiles_of(table)


def count_profiles(table):
    """How many profiles there are."""
    check_table(table)
    return len(profiles_of(table))


def as_pit(table, profile):
    """The lot of the blocks that are dug in a profile."""
    check_profile(table, profile)
    return tuple([block for block, (column, depth) in enumerate(cells_of(table)) if depth <= profile[column]])


def as_profile(table, pit):
    """The profile of a pit of the table's ground."""
    check_pit(ground_of(table), pit)
    dug = [column for block, (column, _) in enumerate(cells_of(table)) if block in pit]
    return tuple([dug.count(column) for column in range(len(table.columns))])
