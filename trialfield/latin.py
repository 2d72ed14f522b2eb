"""Latin squares: whether rows are one, whether two stand at right angles, and what is made of squares."""

from trialfield.plans import all_trials
from trialfield.tables import laid_over


# Python holds True for 1 and False for 0, but a truth is no whole number.
def has_each_once(numbers):
    if any([isinstance(number, bool) for number in numbers]):
        return False
    return sorted(numbers) == list(range(len(numbers)))


def is_square(rows):
    if any([len(row) != len(rows) for row in rows]):
        return False
    return all([has_each_once(numbers) for numbers in rows + laid_over(rows)])


def places_of(n):
    return all_trials([n, n])


def number_at(square, place):
    return square[place[0]][place[1]]


def right_angles(one, other):
    places = {}
    for place in places_of(len(one)):
        pair = (number_at(one, place), number_at(other, place))
        if pair in places:
            return ("twice", places[pair], place)
        places[pair] = place
    return ("right",)


def prime_square(p, a):
    return [[(a * row + column) % p for column in range(p)] for row in range(p)]


def prime_squares(p):
    return [prime_square(p, a) for a in range(1, p)]


def product_row(one, other):
    numbers = []
    for number in one:
        numbers.extend([len(other) * number + within for within in other])
    return numbers


def product(one, other):
    rows = []
    for row in one:
        rows.extend([product_row(row, within) for within in other])
    return rows


def plan_of_squares(n, squares):
    return [place + tuple([number_at(square, place) for square in squares]) for place in places_of(n)]
