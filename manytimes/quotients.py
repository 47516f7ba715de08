"""Numbers told by their quotients: the row of a pair, and the pair of a row."""

from manytimes.errors import BadRow
from manytimes.pairs import is_above_zero, lesser_and_greater

LONGEST_ROW = 1000


def is_row(value):
    """Whether this is a list of whole numbers that can be asked with as a row."""
    if not isinstance(value, list) or not 1 <= len(value) <= LONGEST_ROW:
        return False
    if not all(is_above_zero(number) for number in value):
        return False
    return len(value) == 1 or value[-1] > 1


def quotients(pair):
    """The row of a pair, and the number that goes into both at last."""
    lesser, greater = lesser_and_greater(pair)
    row = []
    while lesser > 0:
        times, left = divmod(greater, lesser)
        row.append(times)
        lesser, greater = left, lesser
    return row, greater


def pair_of(row, common):
    """The pair that has this row and this number that goes into both, the greater number first."""
    if not is_row(row):
        raise BadRow("a row is a list of 1 to 1000 whole numbers above 0, the last above 1 if not alone")
    if not is_above_zero(common):
        raise BadRow("beside a row stands a whole number above 0")
    lesser, greater = 0, common
    for times in reversed(row):
        lesser, greater = greater, times * greater + lesser
    return greater, lesser


def shortest(pair):
    """The fewest takings from a pair, one behind the other, till none can be done."""
    row, _ = quotients(pair)
    # No number of the row can be passed over, and one taking can do all of it. Only in
    # the row of like numbers, 1 alone, is nothing to be taken.
    if row == [1]:
        return 0
    return len(row)


def longest(pair):
    """The most takings from a pair, one behind the other, till none can be done."""
    row, _ = quotients(pair)
    # Each taking is of one time; the last time of all would leave nothing.
    return sum(row) - 1
