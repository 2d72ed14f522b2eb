"""Point [6]: what solves a table for a column, and the determinant."""

import unittest
from fractions import Fraction
from inspect import signature
from random import Random

from helper import (
    FractionCase, dot, exact, exact_rows, is_fraction, laid_over, lead_of, long_fraction, long_whole, made_rows,
    many_tables, of_rank, plainly_reduced, small_number, sparse_number, summed_determinant, table_of, told,
    whole_number,
)
from trialfield.tables import determinant, solved


class Solved(FractionCase):
    def assert_found(self, table, column):
        answer = solved(table, column)
        self.assertIsInstance(answer, tuple)
        self.assertEqual((len(answer), answer[0]), (2, "found"))
        self.assert_fractions(answer[1], len(table[0]))
        rows = exact_rows(table)
        x = [exact(number) for number in answer[1]]
        self.assertEqual([dot(row, x) for row in rows], [exact(number) for number in column])
        leads = [lead_of(row) for row in plainly_reduced(rows)]
        for place, number in enumerate(x):
            if place not in leads:
                self.assertEqual(number, 0)

    def assert_never(self, table, column):
        answer = solved(table, column)
        self.assertIsInstance(answer, tuple)
        self.assertEqual((len(answer), answer[0]), (2, "never"))
        self.assert_fractions(answer[1], len(table))
        y = [exact(number) for number in answer[1]]
        for line in laid_over(exact_rows(table)):
            self.assertEqual(dot(y, line), 0)
        self.assertEqual(dot(y, [exact(number) for number in column]), 1)

    def assert_solved(self, table, column):
        rows = exact_rows(table)
        wider = [row + [exact(number)] for row, number in zip(rows, column)]
        if len(rows[0]) in [lead_of(row) for row in plainly_reduced(wider)]:
            self.assert_never(table, column)
        else:
            self.assert_found(table, column)

    def test_one_x(self):
        table = table_of([[2, 1], [1, 3]])
        self.assertEqual(solved(table, [(3, 1), (5, 1)]), ("found", [(4, 5), (7, 5)]))
        self.assertEqual(solved([[(3, 4)]], [(1, 2)]), ("found", [(2, 3)]))
        self.assertEqual(solved([[(3, 1)], [(6, 1)]], [(1, 1), (2, 1)]), ("found", [(1, 3)]))

    def test_several_x(self):
        table = table_of([[1, 2, 3], [2, 4, 7]])
        self.assertEqual(solved(table, [(1, 1), (5, 1)]), ("found", [(-8, 1), (0, 1), (3, 1)]))
        self.assertEqual(solved(table_of([[0, 0, 5, 1]]), [(1, 1)]), ("found", [(0, 1), (0, 1), (1, 5), (0, 1)]))
        self.assertEqual(solved([[(0, 1), (0, 1)]], [(0, 1)]), ("found", [(0, 1), (0, 1)]))

    def test_never(self):
        self.assert_never(table_of([[1, 2], [2, 4]]), [(1, 1), (1, 1)])
        self.assert_never(table_of([[1], [1]]), [(1, 1), (2, 1)])
        self.assert_never(table_of([[0]]), [(5, 3)])
        self.assert_never(table_of([[0, 0], [1, 1]]), [(-1, 7), (0, 1)])
        self.assert_never(table_of([[1, 0], [0, 1], [1, 1]]), [(1, 1), (1, 1), (3, 1)])

    def test_the_one_y(self):
        self.assertEqual(solved(table_of([[0]]), [(5, 3)]), ("never", [(3, 5)]))
        self.assertEqual(solved(table_of([[1], [1]]), [(1, 1), (3, 1)]), ("never", [(-1, 2), (1, 2)]))

    def test_a_column_of_noughts_is_always_found(self):
        for table in many_tables():
            column = [(0, 1)] * len(table)
            self.assertEqual(solved(table, column), ("found", [(0, 1)] * len(table[0])))

    def test_sums_of_the_columns_are_found(self):
        random = Random(6)
        for table in many_tables():
            rows = exact_rows(table)
            x = [small_number(random) for column in rows[0]]
            self.assert_found(table, [told(dot(row, x)) for row in rows])

    def test_any_column(self):
        random = Random(7)
        for table in many_tables():
            for number in (small_number, sparse_number):
                self.assert_solved(table, [told(number(random)) for row in table])

    def test_both_answers_come_for_tables_of_lesser_rank(self):
        random = Random(8)
        for height, width, most in ((2, 2, 1), (3, 5, 2), (6, 3, 2), (9, 9, 8), (30, 30, 29), (30, 20, 20)):
            rows = of_rank(random, height, width, most, whole_number)
            column = [told(small_number(random)) for row in rows]
            self.assert_never(table_of(rows), column)
            self.assert_found(table_of(rows), [told(sum(row)) for row in rows])

    def test_long_numbers(self):
        random = Random(9)
        table = table_of(made_rows(random, 6, 6, long_fraction))
        self.assert_found(table, [told(long_fraction(random)) for row in table])
        table = table_of(made_rows(random, 6, 4, long_fraction))
        self.assert_never(table, [told(long_fraction(random)) for row in table])
        table = table_of(made_rows(random, 30, 30, long_whole))
        self.assert_found(table, [told(long_whole(random)) for row in table])


class Determinant(unittest.TestCase):
    def assert_determinant(self, rows):
        answer = determinant(table_of(rows))
        self.assertTrue(is_fraction(answer), answer)
        self.assertEqual(exact(answer), summed_determinant(rows))

    def test_a_row_alone(self):
        for number in ((0, 1), (1, 1), (-1, 1), (-7, 3), (10 ** 40 - 1, 10 ** 39)):
            self.assertEqual(determinant([[number]]), number)

    def test_examples(self):
        self.assertEqual(determinant(table_of([[1, 2], [3, 4]])), (-2, 1))
        self.assertEqual(determinant(table_of([[0, 1], [1, 0]])), (-1, 1))
        self.assertEqual(determinant([[(1, 2), (1, 3)], [(1, 4), (1, 5)]]), (1, 60))
        self.assertEqual(determinant(table_of([[0, 0, 1], [1, 0, 0], [0, 1, 0]])), (1, 1))
        self.assertEqual(determinant(table_of([[2, 0, 0], [0, 3, 0], [0, 0, -5]])), (-30, 1))

    def test_against_the_sum_over_all_orders(self):
        random = Random(61)
        for size in (1, 2, 3, 4, 5):
            for number in (small_number, sparse_number, whole_number, long_whole, long_fraction):
                for turn in range(6):
                    self.assert_determinant(made_rows(random, size, size, number))

    def test_a_nought_in_the_first_place(self):
        random = Random(62)
        for size in (1, 2, 3, 4, 5):
            for turn in range(4):
                rows = made_rows(random, size, size, small_number)
                rows[0][0] = Fraction(0)
                self.assert_determinant(rows)
                if size > 1:
                    rows[1][0] = Fraction(0)
                    self.assert_determinant(rows)

    def test_noughts_on_the_way_down(self):
        self.assert_determinant([[Fraction(n) for n in row] for row in ((1, 2, 3), (1, 2, 4), (5, 6, 7))])
        self.assert_determinant([[Fraction(n) for n in row] for row in ((0, 2, 3), (0, 2, 4), (5, 6, 7))])

    def test_two_rows_alike_or_a_row_of_noughts(self):
        random = Random(63)
        for size in (2, 3, 4, 12, 30):
            rows = made_rows(random, size, size, whole_number)
            rows[-1] = list(rows[0])
            self.assertEqual(determinant(table_of(rows)), (0, 1))
            rows = made_rows(random, size, size, small_number)
            rows[size // 2] = [Fraction(0)] * size
            self.assertEqual(determinant(table_of(rows)), (0, 1))
        self.assertEqual(determinant([[(0, 1)]]), (0, 1))

    def test_two_rows_exchanged_turn_the_sign(self):
        random = Random(64)
        for size in (2, 3, 4, 12, 30):
            rows = made_rows(random, size, size, whole_number)
            before = determinant(table_of(rows))
            self.assertNotEqual(before, (0, 1))
            rows[0], rows[size - 1] = rows[size - 1], rows[0]
            self.assertEqual(determinant(table_of(rows)), (-before[0], before[1]))

    def test_great_tables_of_a_known_determinant(self):
        random = Random(65)
        for size in (12, 30):
            rows = [[Fraction(0)] * size for row in range(size)]
            known = Fraction(1)
            for k in range(size):
                rows[k][k] = Fraction(random.choice([-5, -2, 1, 3]), random.choice([1, 2, 7]))
                known *= rows[k][k]
            for turn in range(3 * size):
                one, other = random.sample(range(size), 2)
                factor = random.choice([-1, 1, 2])
                rows[one] = [a + factor * b for a, b in zip(rows[one], rows[other])]
            self.assertEqual(determinant(table_of(rows)), told(known))


class Interface(unittest.TestCase):
    def test_arguments(self):
        self.assertEqual(list(signature(solved).parameters), ["table", "column"])
        self.assertEqual(list(signature(determinant).parameters), ["table"])


if __name__ == "__main__":
    unittest.main()
