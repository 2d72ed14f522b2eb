"""Arrays: right-angled tables of 1 and -1, the plans that come of them, mirrored plans and spun ones."""

from trialfield.plans import all_trials
from trialfield.telling import sum_of_products
from trialfield.words import block_of


# Python holds True for 1, but a truth is no whole number.
def is_sign(number):
    return number in (1, -1) and not isinstance(number, bool)


def is_row_of_signs(row, count):
    return len(row) == count and all([is_sign(number) for number in row])


def is_right(rows):
    count = len(rows)
    if not all([is_row_of_signs(row, count) for row in rows]):
        return False
    for place, row in enumerate(rows):
        if any([sum_of_products(row, other) != 0 for other in rows[:place]]):
            return False
    return True


def turned_signs(row):
    return [-number for number in row]


def doubled(table):
    return [row + row for row in table] + [row + turned_signs(row) for row in table]


# These primes leave the rest 3 by 4, so of k and -k just one is the rest of a square, k not being
# 0. That sets each two rows at right angles, where at a row's own place, for k of 0, stands 1.
def of_prime(p):
    squares = [k * k % p for k in range(p)]
    rows = [[1] * (p + 1)]
    for row in range(p):
        rows.append([-1] + [1 if (column - row) % p in squares else -1 for column in range(p)])
    return rows


def trial_of(row):
    return tuple([0 if number == row[0] else 1 for number in row[1:]])


def plan_of(table):
    return [trial_of(row) for row in table]


def exchanged(trial):
    return tuple([1 - step for step in trial])


def mirrored(plan):
    return plan + [exchanged(trial) for trial in plan]


# A trial of the spun plan is the block of a list of rests, the generators being the block words.
def spun(p, generators):
    return [block_of(p, generators, rests) for rests in all_trials([p] * len(generators[0]))]
