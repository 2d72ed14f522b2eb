"""Telling: by which weights on the trials a combination of worths is told, or by which worths it is hidden."""

from trialfield.fracs import fraction
from trialfield.tables import NOUGHT, common_bottom, fractions_over, laid_over, solved, whole_row


def sum_of_products(one, other):
    return sum([a * b for a, b in zip(one, other)])


def as_fractions(numbers):
    return [(number, 1) for number in numbers]


# A table: in row i and column j the sum of products of the columns i and j of the rows.
def column_products(rows):
    columns = laid_over(rows)
    return [as_fractions([sum_of_products(one, other) for other in columns]) for one in columns]


# Each row's sum of products with the fractions, over their common bottom: so a fraction is
# brought to its one form once for each row, not at each step.
def sums_with(rows, fractions):
    bottom = common_bottom(fractions)
    whole = whole_row(fractions)
    return fractions_over([sum_of_products(row, whole) for row in rows], bottom)


# The weights of the least spread are those that are sums of multiples of the columns: whatever
# else gives the combination differs from them by weights at right angles to all columns.
# A y that makes nought of the products of all columns makes nought of each row too, as the sum
# of squares of what it makes of the rows is nought.
def telling(rows, combination):
    answer = solved(column_products(rows), as_fractions(combination))
    if answer[0] == "found":
        return ("told", sums_with(rows, answer[1]))
    return ("hidden", answer[1], [NOUGHT] * len(combination))


def spread(weights):
    bottom = common_bottom(weights)
    whole = whole_row(weights)
    return fraction(sum_of_products(whole, whole), bottom * bottom)
