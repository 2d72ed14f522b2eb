"""What several tests share: tables made by a fixed seed, and the same things reckoned another way."""

from fractions import Fraction
from itertools import permutations
from math import gcd
from random import Random


def is_whole(number):
    return isinstance(number, int) and not isinstance(number, bool)


def is_fraction(value):
    return (
        isinstance(value, tuple)
        and len(value) == 2
        and is_whole(value[0])
        and is_whole(value[1])
        and value[1] > 0
        and gcd(value[0], value[1]) == 1
    )


def exact(value):
    return Fraction(value[0], value[1])


def told(number):
    number = Fraction(number)
    return (number.numerator, number.denominator)


def table_of(rows):
    return [[told(number) for number in row] for row in rows]


def exact_rows(table):
    return [[exact(number) for number in row] for row in table]


def small_number(random):
    return Fraction(random.randint(-6, 6), random.randint(1, 5))


def sparse_number(random):
    return Fraction(random.choice([0, 0, 0, 1, -1, 2]))


def whole_number(random):
    return Fraction(random.randint(-9, 9))


def long_whole(random):
    return Fraction(random.randint(-(10 ** 20) + 1, 10 ** 20 - 1))


def long_fraction(random):
    return Fraction(random.randint(-(10 ** 40) + 1, 10 ** 40 - 1), random.randint(1, 10 ** 40 - 1))


def made_rows(random, height, width, number=small_number):
    return [[number(random) for column in range(width)] for row in range(height)]


def of_rank(random, height, width, most, number=small_number):
    """Rows that are sums of multiples of `most` rows."""
    first = made_rows(random, height, most, number)
    second = made_rows(random, most, width, number)
    return [[dot(row, [line[k] for line in second]) for k in range(width)] for row in first]


def dot(one, other):
    return sum((a * b for a, b in zip(one, other, strict=True)), Fraction(0))


def many_tables():
    """Tables of all shapes up to five by five, and some greater ones, of full and of lesser rank."""
    random = Random(5)
    tables = []
    for height in range(1, 6):
        for width in range(1, 6):
            for number in (small_number, sparse_number, whole_number):
                tables.append(table_of(made_rows(random, height, width, number)))
            for most in range(1, min(height, width)):
                tables.append(table_of(of_rank(random, height, width, most)))
            tables.append(table_of([[0] * width for row in range(height)]))
    for height, width, most in ((30, 30, 30), (30, 30, 17), (30, 12, 7), (12, 30, 12), (30, 1, 1), (1, 30, 1)):
        tables.append(table_of(of_rank(random, height, width, most, whole_number)))
    tables.append(table_of(made_rows(random, 30, 30, sparse_number)))
    tables.append(table_of(made_rows(random, 30, 30, long_whole)))
    tables.append(table_of(made_rows(random, 6, 6, long_fraction)))
    tables.append(table_of(made_rows(random, 4, 7, long_fraction)))
    return tables


def plainly_reduced(rows):
    """The reduced form by plain steps on fractions."""
    rows = [list(row) for row in rows]
    top = 0
    for column in range(len(rows[0])):
        place = next((k for k in range(top, len(rows)) if rows[k][column] != 0), None)
        if place is None:
            continue
        rows[top], rows[place] = rows[place], rows[top]
        rows[top] = [number / rows[top][column] for number in rows[top]]
        for k in range(len(rows)):
            if k != top:
                rows[k] = [a - rows[k][column] * b for a, b in zip(rows[k], rows[top])]
        top += 1
    return rows


def lead_of(row):
    """The column of the first number that is not nought, or None."""
    return next((k for k, number in enumerate(row) if number != 0), None)


def order_sign(order):
    turned = sum(1 for k in range(len(order)) for j in range(k) if order[j] > order[k])
    return -1 if turned % 2 else 1


def summed_determinant(rows):
    """The sum over all orders of the columns."""
    total = Fraction(0)
    for order in permutations(range(len(rows))):
        product = Fraction(order_sign(order))
        for row, column in zip(rows, order):
            product *= row[column]
        total += product
    return total
