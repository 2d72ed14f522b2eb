"""Point [24]: Latin squares, squares at right angles, squares of primes, products, and plans of squares."""

import unittest
from inspect import signature
from itertools import combinations, permutations, product as all_of
from random import Random

from helper import is_whole, laid_over
from trialfield.latin import is_square, plan_of_squares, prime_squares, product, right_angles

PRIMES = (2, 3, 5, 7)
# Three squares of four, each two at right angles.
FOURS = (
    [[0, 1, 2, 3], [1, 0, 3, 2], [2, 3, 0, 1], [3, 2, 1, 0]],
    [[0, 1, 2, 3], [2, 3, 0, 1], [3, 2, 1, 0], [1, 0, 3, 2]],
    [[0, 1, 2, 3], [3, 2, 1, 0], [1, 0, 3, 2], [2, 3, 0, 1]],
)


def cyclic(n):
    return [[(row + column) % n for column in range(n)] for row in range(n)]


def shuffled(random, square):
    """The square with rows, columns and numbers in another order."""
    n = len(square)
    rows, columns, numbers = [random.sample(range(n), n) for turn in range(3)]
    return [[numbers[square[row][column]] for column in columns] for row in rows]


def plainly_square(rows):
    lines = rows + laid_over(rows)
    return all(len(line) == len(rows) and set(line) == set(range(len(rows))) for line in lines)


def some_squares():
    """Of one to seven, several of each."""
    random = Random(24)
    squares = [[[0]]] + [cyclic(n) for n in range(2, 8)] + list(FOURS)
    return squares + [shuffled(random, square) for square in squares for turn in range(3)]


def all_squares(n, first=None):
    """All squares of n, or those with this first row."""
    lines = [list(line) for line in permutations(range(n))]
    tops = lines if first is None else [first]
    found = []
    for top in tops:
        for rest in all_of(lines, repeat=n - 1):
            if plainly_square([top] + list(rest)):
                found.append([list(row) for row in [top] + list(rest)])
    return found


def pairs_of(one, other):
    n = len(one)
    return [(one[i][j], other[i][j]) for i in range(n) for j in range(n)]


def plainly_right(one, other):
    return len(set(pairs_of(one, other))) == len(one) ** 2


class IsSquare(unittest.TestCase):
    def test_squares_of_one_to_seven(self):
        seen = set()
        for square in some_squares():
            self.assertTrue(plainly_square(square))
            self.assertIs(is_square(square), True)
            seen.add(len(square))
        self.assertEqual(seen, set(range(1, 8)))

    def test_a_row_too_many_or_too_few(self):
        for square in some_squares():
            n = len(square)
            self.assertIs(is_square(square + [square[0]]), False)
            self.assertIs(is_square(square + [list(range(n + 1))]), False)
            self.assertIs(is_square([row + [n] for row in square]), False)
            if n > 1:
                self.assertIs(is_square(square[1:]), False)
                self.assertIs(is_square(square[:-1]), False)
                self.assertIs(is_square([row[1:] for row in square]), False)

    def test_rows_of_unlike_count(self):
        for rows in ([[]], [[], []], [[0], []], [[], [0]], [[0, 1], [1]], [[0], [1, 0]], [[0, 1], [1, 0, 0]]):
            self.assertIs(is_square(rows), False)
        for square in some_squares():
            n = len(square)
            self.assertIs(is_square(square[:-1] + [square[-1] + [n]]), False)
            self.assertIs(is_square(square[:-1] + [square[-1][:-1]]), False)
            self.assertIs(is_square([square[0] + [0]] + square[1:]), False)
            self.assertIs(is_square([square[0][1:]] + square[1:]), False)

    def test_a_number_twice_in_a_row_alone(self):
        for square in some_squares():
            n = len(square)
            if n > 1:
                # Every column has each number once, and the rows have one number alone.
                rows = [[row] * n for row in range(n)]
                self.assertIs(is_square(rows), False)
                # Two numbers of one column exchanged: the columns stay as they should be.
                changed = [list(row) for row in square]
                changed[0][0], changed[1][0] = changed[1][0], changed[0][0]
                self.assertIs(is_square(changed), plainly_square(changed))
                if n > 2:
                    self.assertIs(is_square(changed), False)

    def test_a_number_twice_in_a_column_alone(self):
        for square in some_squares():
            n = len(square)
            if n > 1:
                self.assertIs(is_square([list(range(n))] * n), False)
                changed = [list(row) for row in square]
                changed[-1][0], changed[-1][-1] = changed[-1][-1], changed[-1][0]
                self.assertIs(is_square(changed), plainly_square(changed))
                if n > 2:
                    self.assertIs(is_square(changed), False)

    def test_numbers_too_great_or_below_0(self):
        for rows in ([[1]], [[-1]], [[7]], [[10 ** 20 - 1]], [[1, 2], [2, 1]], [[-1, 0], [0, -1]], [[0, 2], [2, 0]]):
            self.assertIs(is_square(rows), False)
        for square in some_squares():
            n = len(square)
            # One number everywhere in another's place: each line still has unlike numbers.
            for number in (n, -1, -n, n + 3, 10 ** 20 - 1):
                changed = [[number if at == 0 else at for at in row] for row in square]
                self.assertIs(is_square(changed), False)
            self.assertIs(is_square([[at + 1 for at in row] for row in square]), False)
            self.assertIs(is_square([[at - 1 for at in row] for row in square]), False)
            self.assertIs(is_square([[at - n for at in row] for row in square]), False)

    def test_a_truth_is_no_number(self):
        self.assertIs(is_square([[False]]), False)
        self.assertIs(is_square([[0, True], [1, 0]]), False)
        self.assertIs(is_square([[0, 1], [True, False]]), False)

    def test_all_small_lists(self):
        counts = {}
        for n in (1, 2):
            rows = [list(row) for row in all_of(range(-1, n + 2), repeat=n)]
            answers = [(list(table), is_square(list(table))) for table in all_of(rows, repeat=n)]
            for table, answer in answers:
                self.assertIs(answer, plainly_square(table))
            counts[n] = sum(answer for table, answer in answers)
        for n in (3, 4):
            lines = [list(line) for line in permutations(range(n))]
            answers = [is_square([list(range(n))] + list(rest)) for rest in all_of(lines, repeat=n - 1)]
            counts[n] = sum(answers)
        self.assertEqual(counts, {1: 1, 2: 2, 3: 2, 4: 24})

    def test_all_lists_of_three_rows(self):
        rows = [list(row) for row in all_of(range(3), repeat=3)]
        self.assertEqual(sum(is_square(list(table)) for table in all_of(rows, repeat=3)), 12)


class RightAngles(unittest.TestCase):
    def assert_told(self, one, other):
        answer = right_angles(one, other)
        self.assertIsInstance(answer, tuple)
        if plainly_right(one, other):
            self.assertEqual(answer, ("right",))
            return True
        self.assertEqual((len(answer), answer[0]), (3, "twice"))
        for place in answer[1:]:
            self.assertIsInstance(place, tuple)
            self.assertEqual(len(place), 2)
            self.assertTrue(all(is_whole(number) and number in range(len(one)) for number in place))
        (i, j), (k, l) = answer[1:]
        self.assertLess((i, j), (k, l))
        self.assertEqual((one[i][j], other[i][j]), (one[k][l], other[k][l]))
        return False

    def test_examples(self):
        one, other = prime_squares(3)
        self.assertEqual(right_angles(one, other), ("right",))
        self.assertEqual(right_angles([[0, 1], [1, 0]], [[1, 0], [0, 1]])[0], "twice")
        self.assertEqual(right_angles([[0, 1], [1, 0]], [[0, 1], [1, 0]])[0], "twice")

    def test_a_square_of_one_with_itself(self):
        self.assertEqual(right_angles([[0]], [[0]]), ("right",))

    def test_a_square_with_itself(self):
        for square in some_squares():
            self.assertEqual(self.assert_told(square, square), len(square) == 1)
            self.assertEqual(self.assert_told(square, [list(row) for row in square]), len(square) == 1)

    def test_of_two_none_stand_so(self):
        for one, other in all_of(all_squares(2), repeat=2):
            self.assertFalse(self.assert_told(one, other))

    def test_all_of_three(self):
        answers = [self.assert_told(one, other) for one, other in all_of(all_squares(3), repeat=2)]
        self.assertEqual((len(answers), sum(answers)), (144, 72))

    def test_all_of_four_with_one_first_row(self):
        squares = all_squares(4, [0, 1, 2, 3])
        answers = [self.assert_told(one, other) for one, other in all_of(squares, repeat=2)]
        self.assertEqual((len(answers), sum(answers)), (576, 12))
        for one, other in permutations(FOURS, 2):
            self.assertTrue(self.assert_told(one, other))

    def test_some_of_five_to_seven(self):
        random = Random(240)
        seen = []
        for n in (5, 6, 7):
            squares = [cyclic(n)] + (prime_squares(n) if n != 6 else [])
            squares += [shuffled(random, square) for square in squares for turn in range(4)]
            seen += [self.assert_told(one, other) for one, other in all_of(squares, repeat=2)]
        self.assertGreater(seen.count(True), 50)
        self.assertGreater(seen.count(False), 100)

    def test_other_orders_of_numbers_change_nothing(self):
        random = Random(241)
        for p in (3, 5, 7):
            for one, other in combinations(prime_squares(p), 2):
                numbers = random.sample(range(p), p)
                self.assertTrue(self.assert_told([[numbers[at] for at in row] for row in one], other))

    def test_few_pairs_come_twice(self):
        # Two rows of the other exchanged in two columns alone, where they have the same two numbers.
        one, other = FOURS[0], [list(row) for row in FOURS[1]]
        for column in (0, 3):
            other[0][column], other[2][column] = other[2][column], other[0][column]
        self.assertTrue(plainly_square(other))
        self.assertEqual(len(set(pairs_of(one, other))), 12)
        self.assertFalse(self.assert_told(one, other))

    def test_pairs_come_twice_in_the_last_rows_alone(self):
        one, other = prime_squares(5)[:2]
        changed = one[:3] + [one[4], one[3]]
        self.assertFalse(self.assert_told(changed, other))


class PrimeSquares(unittest.TestCase):
    def test_examples(self):
        self.assertEqual(prime_squares(2), [[[0, 1], [1, 0]]])
        self.assertEqual(prime_squares(3), [[[0, 1, 2], [1, 2, 0], [2, 0, 1]], [[0, 1, 2], [2, 0, 1], [1, 2, 0]]])

    def test_number_by_number(self):
        for p in PRIMES:
            squares = prime_squares(p)
            self.assertIsInstance(squares, list)
            self.assertEqual(len(squares), p - 1)
            for a, square in enumerate(squares, start=1):
                self.assertEqual(square, [[(a * row + column) % p for column in range(p)] for row in range(p)])
                self.assertTrue(all(is_whole(number) for row in square for number in row))

    def test_squares_and_each_two_at_right_angles(self):
        for p in PRIMES:
            squares = prime_squares(p)
            for square in squares:
                self.assertTrue(plainly_square(square))
                self.assertIs(is_square(square), True)
            for one, other in permutations(squares, 2):
                self.assertTrue(plainly_right(one, other))
                self.assertEqual(right_angles(one, other), ("right",))


class Product(unittest.TestCase):
    def test_examples(self):
        two = [[0, 1], [1, 0]]
        self.assertEqual(product([[0]], two), two)
        self.assertEqual(product(two, [[0]]), two)
        self.assertEqual(product([[0]], [[0]]), [[0]])
        self.assertEqual(product(two, two), FOURS[0])
        self.assertEqual(
            product(two, [[0, 1, 2], [1, 2, 0], [2, 0, 1]]),
            [
                [0, 1, 2, 3, 4, 5], [1, 2, 0, 4, 5, 3], [2, 0, 1, 5, 3, 4],
                [3, 4, 5, 0, 1, 2], [4, 5, 3, 1, 2, 0], [5, 3, 4, 2, 0, 1],
            ],
        )

    def test_number_by_number(self):
        seen = set()
        squares = some_squares()[::2]
        for one, other in all_of(squares, repeat=2):
            n, m = len(one), len(other)
            answer = product(one, other)
            self.assertEqual([len(row) for row in answer], [n * m] * (n * m))
            for i, j, k, l in all_of(range(n), range(n), range(m), range(m)):
                number = answer[i * m + k][j * m + l]
                self.assertTrue(is_whole(number))
                self.assertEqual(number, m * one[i][j] + other[k][l])
            seen.add((n, m))
        self.assertEqual(seen, set(all_of(range(1, 8), repeat=2)))

    def test_products_are_squares(self):
        for one, other in all_of(some_squares()[:10], repeat=2):
            self.assertTrue(plainly_square(product(one, other)))
            self.assertIs(is_square(product(one, other)), True)

    def test_at_right_angles_just_where_both_firsts_and_both_seconds_are(self):
        twos = [([[0]], [[0]]), ([[0, 1], [1, 0]], [[0, 1], [1, 0]]), ([[0, 1], [1, 0]], [[1, 0], [0, 1]])]
        twos += [tuple(prime_squares(3)), (cyclic(3), cyclic(3)), (FOURS[0], FOURS[2]), (FOURS[0], cyclic(4))]
        twos += [tuple(prime_squares(5)[1:3]), (cyclic(5), shuffled(Random(242), cyclic(5)))]
        seen = []
        for firsts, seconds in all_of(twos, repeat=2):
            one, other = product(firsts[0], seconds[0]), product(firsts[1], seconds[1])
            right = plainly_right(*firsts) and plainly_right(*seconds)
            self.assertEqual(plainly_right(one, other), right)
            self.assertEqual(right_angles(one, other) == ("right",), right)
            seen.append(right)
        self.assertEqual(len(set(seen)), 2)


class PlanOfSquares(unittest.TestCase):
    def test_examples(self):
        self.assertEqual(plan_of_squares(2, []), [(0, 0), (0, 1), (1, 0), (1, 1)])
        self.assertEqual(plan_of_squares(2, [[[1, 0], [0, 1]]]), [(0, 0, 1), (0, 1, 0), (1, 0, 0), (1, 1, 1)])
        self.assertEqual(plan_of_squares(1, []), [(0, 0)])
        self.assertEqual(plan_of_squares(1, [[[0]], [[0]]]), [(0, 0, 0, 0)])

    def assert_plan(self, n, squares):
        plan = plan_of_squares(n, squares)
        self.assertIsInstance(plan, list)
        places = [(row, column) for row in range(n) for column in range(n)]
        self.assertEqual([trial[:2] for trial in plan], places)
        for trial in plan:
            self.assertIsInstance(trial, tuple)
            self.assertEqual(len(trial), 2 + len(squares))
            self.assertTrue(all(is_whole(step) for step in trial))
            self.assertEqual(list(trial[2:]), [square[trial[0]][trial[1]] for square in squares])

    def test_a_trial_for_each_row_and_column(self):
        for n in range(1, 8):
            squares = [square for square in some_squares() if len(square) == n]
            for count in range(min(6, len(squares)) + 1):
                self.assert_plan(n, squares[:count])
                self.assert_plan(n, squares[len(squares) - count:])


class Interface(unittest.TestCase):
    def test_arguments(self):
        self.assertEqual(list(signature(is_square).parameters), ["rows"])
        self.assertEqual(list(signature(right_angles).parameters), ["one", "other"])
        self.assertEqual(list(signature(prime_squares).parameters), ["p"])
        self.assertEqual(list(signature(product).parameters), ["one", "other"])
        self.assertEqual(list(signature(plan_of_squares).parameters), ["n", "squares"])


if __name__ == "__main__":
    unittest.main()
