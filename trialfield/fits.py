"""Fits: the worths by which a table comes nearest to results, and the results' squares taken apart by effects."""

from trialfield.fracs import minus
from trialfield.models import table_of
from trialfield.tables import NOUGHT, laid_over, solved
from trialfield.telling import as_fractions, column_products, spread, sum_of_products, sums_with


# What is left stands at right angles to all columns just where the columns' products, times the
# worths, come to the columns' sums with the results. There are always worths that do so.
def fit(rows, results):
    sums = [sum_of_products(column, results) for column in laid_over(rows)]
    worths = solved(column_products(rows), as_fractions(sums))[1]
    fitted = sums_with(rows, worths)
    left = [minus(result, number) for result, number in zip(as_fractions(results), fitted)]
    return (worths, fitted, left)


def fitted_square(levels, plan, model, results):
    return spread(fit(table_of(levels, plan, model), results)[1])


def squares(levels, plan, model, results):
    apart = []
    ahead = NOUGHT
    for place, effect in enumerate(model):
        reached = fitted_square(levels, plan, model[:place + 1], results)
        apart.append((effect, minus(reached, ahead)))
        ahead = reached
    # As what is left and what is fitted stand at right angles, their squares come to the whole.
    whole = (sum_of_products(results, results), 1)
    return apart + [("left", minus(whole, ahead))]
