"""What several tests share: tables made by a fixed seed, and the same things reckoned another way."""

from collections import Counter
from fractions import Fraction
from itertools import combinations, permutations, product
from math import gcd, prod
from random import Random
from unittest import TestCase

# The values of each contrast at each step, written out: CONTRASTS[s][k - 1].
CONTRASTS = {
    2: [[1, -1]],
    3: [[1, -1, 0], [1, 1, -2]],
    4: [[1, -1, 0, 0], [1, 1, -2, 0], [1, 1, 1, -3]],
    5: [[1, -1, 0, 0, 0], [1, 1, -2, 0, 0], [1, 1, 1, -3, 0], [1, 1, 1, 1, -4]],
    6: [[1, -1, 0, 0, 0, 0], [1, 1, -2, 0, 0, 0], [1, 1, 1, -3, 0, 0], [1, 1, 1, 1, -4, 0], [1, 1, 1, 1, 1, -5]],
    7: [
        [1, -1, 0, 0, 0, 0, 0],
        [1, 1, -2, 0, 0, 0, 0],
        [1, 1, 1, -3, 0, 0, 0],
        [1, 1, 1, 1, -4, 0, 0],
        [1, 1, 1, 1, 1, -5, 0],
        [1, 1, 1, 1, 1, 1, -6],
    ],
}


def is_whole(number):
    return isinstance(number, int) and not isinstance(number, bool)


def is_fraction(value):
    return (
        isinstance(value, tuple)
        and len(value) == 2
        and is_whole(value[0])
        and is_whole(value[1])
        and value[1] > 0
        and gcd(value[0], value[1]) == 1
    )


class FractionCase(TestCase):
    def assert_fractions(self, numbers, count):
        self.assertIsInstance(numbers, list)
        self.assertEqual(len(numbers), count)
        for number in numbers:
            self.assertTrue(is_fraction(number), number)


def exact(value):
    return Fraction(value[0], value[1])


def told(number):
    number = Fraction(number)
    return (number.numerator, number.denominator)


def table_of(rows):
    return [[told(number) for number in row] for row in rows]


def exact_rows(table):
    return [[exact(number) for number in row] for row in table]


def small_number(random):
    return Fraction(random.randint(-6, 6), random.randint(1, 5))


def sparse_number(random):
    return Fraction(random.choice([0, 0, 0, 1, -1, 2]))


def whole_number(random):
    return Fraction(random.randint(-9, 9))


def long_whole(random):
    return Fraction(random.randint(-(10 ** 20) + 1, 10 ** 20 - 1))


def long_fraction(random):
    return Fraction(random.randint(-(10 ** 40) + 1, 10 ** 40 - 1), random.randint(1, 10 ** 40 - 1))


def made_rows(random, height, width, number=small_number):
    return [[number(random) for column in range(width)] for row in range(height)]


def of_rank(random, height, width, most, number=small_number):
    """Rows that are sums of multiples of `most` rows."""
    first = made_rows(random, height, most, number)
    second = made_rows(random, most, width, number)
    return [[dot(row, [line[k] for line in second]) for k in range(width)] for row in first]


def dot(one, other):
    return sum((a * b for a, b in zip(one, other, strict=True)), Fraction(0))


def many_tables():
    """Tables of all shapes up to five by five, and some greater ones, of full and of lesser rank."""
    random = Random(5)
    tables = []
    for height in range(1, 6):
        for width in range(1, 6):
            for number in (small_number, sparse_number, whole_number):
                tables.append(table_of(made_rows(random, height, width, number)))
            for most in range(1, min(height, width)):
                tables.append(table_of(of_rank(random, height, width, most)))
            tables.append(table_of([[0] * width for row in range(height)]))
    for height, width, most in ((30, 30, 30), (30, 30, 17), (30, 12, 7), (12, 30, 12), (30, 1, 1), (1, 30, 1)):
        tables.append(table_of(of_rank(random, height, width, most, whole_number)))
    tables.append(table_of(made_rows(random, 30, 30, sparse_number)))
    tables.append(table_of(made_rows(random, 30, 30, long_whole)))
    tables.append(table_of(made_rows(random, 6, 6, long_fraction)))
    tables.append(table_of(made_rows(random, 4, 7, long_fraction)))
    return tables


def small(random):
    return random.randint(-5, 5)


def sparse(random):
    return random.choice([0, 0, 0, 1, -1])


def signs(random):
    return random.choice([1, -1])


def long(random):
    return random.randint(-(10 ** 20) + 1, 10 ** 20 - 1)


def whole_of_rank(random, height, width, most):
    return [[int(number) for number in row] for row in of_rank(random, height, width, most, small)]


def whole_tables():
    """Tables of whole numbers: of one row and of one column, of noughts, of lesser rank, with columns alike."""
    random = Random(16)
    tables = []
    for height, width in ((1, 1), (1, 4), (4, 1), (2, 2), (3, 3), (5, 3), (3, 5), (6, 4), (4, 6), (9, 2), (2, 9)):
        for number in (small, sparse, signs):
            tables.append(made_rows(random, height, width, number))
        for most in range(1, min(height, width)):
            tables.append(whole_of_rank(random, height, width, most))
        tables.append([[0] * width for row in range(height)])
    alike = made_rows(random, 4, 3, small)
    tables.append([row for row in alike for turn in range(2)])
    tables.append([row + row for row in alike])
    tables.append([row + [0] for row in alike] + [[0] * 4])
    tables.append(made_rows(random, 5, 3, long))
    tables.append(made_rows(random, 3, 5, long))
    tables.append(whole_of_rank(random, 12, 12, 7))
    return tables


def laid_over(rows):
    return [list(column) for column in zip(*rows)]


def full(levels):
    """All trials of the levels, in order."""
    return [tuple(trial) for trial in product(*[range(steps) for steps in levels])]


def plainly_even_in(plan, levels, columns):
    counts = Counter(tuple(trial[column] for column in columns) for trial in plan)
    return len({counts[choice] for choice in full([levels[column] for column in columns])}) == 1


def plainly_even_to(plan, levels, t):
    return all(plainly_even_in(plan, levels, columns) for columns in combinations(range(len(levels)), t))


def plain_columns(levels, model):
    columns = []
    for effect in model:
        for numbers in product(*[range(1, levels[thing]) for thing in effect]):
            columns.append((effect, numbers))
    return columns


def plain_value(levels, trial, column):
    effect, numbers = column
    return prod(CONTRASTS[levels[thing]][k - 1][trial[thing]] for thing, k in zip(effect, numbers))


def plain_table(levels, plan, model):
    columns = plain_columns(levels, model)
    return [[plain_value(levels, trial, column) for column in columns] for trial in plan]


def plainly_reduced(rows):
    """The reduced form by plain steps on fractions."""
    rows = [list(row) for row in rows]
    top = 0
    for column in range(len(rows[0])):
        place = next((k for k in range(top, len(rows)) if rows[k][column] != 0), None)
        if place is None:
            continue
        rows[top], rows[place] = rows[place], rows[top]
        rows[top] = [number / rows[top][column] for number in rows[top]]
        for k in range(len(rows)):
            if k != top:
                rows[k] = [a - rows[k][column] * b for a, b in zip(rows[k], rows[top])]
        top += 1
    return rows


def lead_of(row):
    """The column of the first number that is not nought, or None."""
    return next((k for k, number in enumerate(row) if number != 0), None)


def order_sign(order):
    turned = sum(1 for k in range(len(order)) for j in range(k) if order[j] > order[k])
    return -1 if turned % 2 else 1


def summed_determinant(rows):
    """The sum over all orders of the columns."""
    total = Fraction(0)
    for order in permutations(range(len(rows))):
        product = Fraction(order_sign(order))
        for row, column in zip(rows, order):
            product *= row[column]
        total += product
    return total


def plain_rank(rows):
    return len([row for row in plainly_reduced([[Fraction(n) for n in row] for row in rows]) if any(row)])


def less_its_parts(numbers, upright):
    """What stays of the numbers beside lists that stand at right angles to one another."""
    stays = [Fraction(number) for number in numbers]
    for other in upright:
        factor = dot(numbers, other) / dot(other, other)
        stays = [a - factor * b for a, b in zip(stays, other)]
    return stays


def plainly_left(rows, results):
    upright = []
    for column in laid_over(rows):
        own = less_its_parts(column, upright)
        if any(own):
            upright.append(own)
    return less_its_parts(results, upright)


def plain_square(numbers):
    return dot(numbers, numbers)


def plain_fitted_square(levels, plan, model, results):
    """The square of what is fitted with all of these effects; of none, nothing is."""
    if not model:
        return Fraction(0)
    left = plainly_left(plain_table(levels, plan, model), results)
    return plain_square([result - number for result, number in zip(results, left)])


def any_plan(random, levels, count):
    return [tuple(random.randrange(steps) for steps in levels) for trial in range(count)]
