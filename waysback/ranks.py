"""The rank of rows of whole numbers."""

from math import gcd


def lessened(row):
    """A row {column: number} divided by the greatest number that divides all of it, without noughts."""
    divisor = 0
    for number in row.values():
        divisor = gcd(divisor, number)
    return {column: number // divisor for column, number in row.items() if number != 0}


def struck_by(row, other, column):
    """What is left of row when so much of other is taken off that nothing stands in this column."""
    mine, theirs = row[column], other[column]
    told = {at: number * theirs for at, number in row.items()}
    for at, number in other.items():
        told[at] = told.get(at, 0) - number * mine
    return lessened(told)


def rank_of(rows):
    """How many of rows {column: number}, and no more, there are such that none hangs on the others."""
    standing = {}
    for row in rows:
        left = lessened(row)
        while left != {}:
            column = min(list(left))
            if column not in standing:
                standing[column] = left
                left = {}
            else:
                left = struck_by(left, standing[column], column)
    return len(standing)
