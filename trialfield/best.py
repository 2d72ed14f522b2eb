"""The best plan: the worth of a plan for a model, and the choice of trials that has the greatest."""

from trialfield.models import table_of
from trialfield.plans import longer_lists
from trialfield.tables import determinant
from trialfield.telling import column_products


# Whole numbers alone stand in the table, so the determinant's bottom is 1.
def worth_of(rows):
    return determinant(column_products(rows))[0]


def worth(levels, plan, model):
    return worth_of(table_of(levels, plan, model))


# All rising lists of many places, of so many in all. Each list on the way there leaves places
# enough behind it, so there are never more of them than there are choices.
def choices_of(count, many):
    choices = [[]]
    for chosen in range(1, many + 1):
        choices = longer_lists(choices, count - many + chosen)
    return choices


def best(levels, trials, model, many):
    rows = table_of(levels, trials, model)
    choices = choices_of(len(trials), many)
    chosen = max(choices, key=lambda places: worth_of([rows[place] for place in places]))
    plan = [trials[place] for place in chosen]
    return (plan, worth(levels, plan, model))
