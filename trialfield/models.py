"""Models: lists of effects, the columns they have, and their table with a plan."""

from trialfield.plans import all_trials


def contrast(number, step):
    if step < number:
        return 1
    if step == number:
        return -number
    return 0


# A thing of s steps has the contrasts 1 to s - 1: one less than its steps, counted from 1.
def effect_columns(levels, effect):
    counted = all_trials([levels[thing] - 1 for thing in effect])
    return [(effect, tuple([place + 1 for place in places])) for places in counted]


def columns_of(levels, model):
    columns = []
    for effect in model:
        columns.extend(effect_columns(levels, effect))
    return columns


def value_at(column, trial):
    value = 1
    for thing, number in zip(column[0], column[1]):
        value = value * contrast(number, trial[thing])
    return value


def table_of(levels, plan, model):
    columns = columns_of(levels, model)
    return [[value_at(column, trial) for column in columns] for trial in plan]
