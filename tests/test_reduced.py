"""Point [5]: the reduced form of a table, and its rank."""

import unittest
from fractions import Fraction
from inspect import signature
from random import Random

from helper import (
    dot,
    exact_rows,
    is_fraction,
    is_whole,
    lead_of,
    long_fraction,
    made_rows,
    many_tables,
    of_rank,
    plainly_reduced,
    small_number,
    table_of,
    whole_number,
)
from trialfield.tables import rank, reduced


def row_turned(random, rows):
    """The rows after some row turns of each sort."""
    rows = [list(row) for row in rows]
    for turn in range(8):
        one = random.randrange(len(rows))
        other = random.randrange(len(rows))
        rows[one], rows[other] = rows[other], rows[one]
        factor = Fraction(random.choice([-3, -1, 2, 5]), random.choice([1, 2, 7]))
        rows[one] = [factor * number for number in rows[one]]
        if one != other:
            factor = small_number(random)
            rows[other] = [a + factor * b for a, b in zip(rows[other], rows[one])]
    return rows


class Reduced(unittest.TestCase):
    def assert_is_reduced(self, rows):
        leads = [lead_of(row) for row in rows]
        count = len([lead for lead in leads if lead is not None])
        self.assertEqual(leads[count:], [None] * (len(rows) - count))
        self.assertEqual(leads[:count], sorted(set(leads[:count])))
        for place, lead in enumerate(leads[:count]):
            self.assertEqual([row[lead] for row in rows], [int(k == place) for k in range(len(rows))])

    def assert_same_sums(self, rows, answer):
        """Each row of a table is a sum of multiples of the rows of its reduced form."""
        leads = [lead_of(row) for row in answer]
        parts = [(row, lead) for row, lead in zip(answer, leads) if lead is not None]
        for row in rows:
            back = [dot([row[lead] for part, lead in parts], [part[k] for part, lead in parts]) for k in range(len(row))]
            self.assertEqual(back, row)

    def assert_reduced(self, table):
        answer = reduced(table)
        self.assertIsInstance(answer, list)
        self.assertEqual([len(row) for row in answer], [len(row) for row in table])
        for row in answer:
            self.assertIsInstance(row, list)
            for number in row:
                self.assertTrue(is_fraction(number), number)
        rows = exact_rows(table)
        self.assert_is_reduced(exact_rows(answer))
        self.assert_same_sums(rows, exact_rows(answer))
        self.assertTrue(exact_rows(answer) == plainly_reduced(rows))

    def test_examples(self):
        self.assertEqual(reduced(table_of([[2, 4], [1, 3]])), table_of([[1, 0], [0, 1]]))
        self.assertEqual(
            reduced(table_of([[1, 2, 3], [4, 5, 6], [7, 8, 9]])),
            table_of([[1, 0, -1], [0, 1, 2], [0, 0, 0]]),
        )
        self.assertEqual(
            reduced([[(1, 2), (1, 3), (1, 6)]]),
            [[(1, 1), (2, 3), (1, 3)]],
        )

    def test_one_row(self):
        self.assertEqual(reduced(table_of([[0, -3, 6, 1]])), [[(0, 1), (1, 1), (-2, 1), (-1, 3)]])
        self.assertEqual(reduced([[(5, 7)]]), [[(1, 1)]])
        self.assertEqual(reduced([[(0, 1)]]), [[(0, 1)]])

    def test_one_column(self):
        self.assertEqual(reduced(table_of([[0], [0], [4], [-2]])), table_of([[1], [0], [0], [0]]))
        self.assertEqual(reduced(table_of([[0], [0]])), table_of([[0], [0]]))

    def test_noughts_alone(self):
        for height, width in ((1, 1), (1, 4), (4, 1), (3, 5), (5, 3), (30, 30)):
            table = table_of([[0] * width for row in range(height)])
            self.assertEqual(reduced(table), table)
            self.assertEqual(rank(table), 0)

    def test_columns_of_noughts_ahead_of_the_first_lead(self):
        self.assertEqual(
            reduced(table_of([[0, 0, 0, 2], [0, 0, 3, 1], [0, 0, 6, 4]])),
            table_of([[0, 0, 1, 0], [0, 0, 0, 1], [0, 0, 0, 0]]),
        )

    def test_columns_without_a_lead_between_leads(self):
        self.assertEqual(
            reduced(table_of([[0, 2, 4, 0, 2, 2], [0, 1, 2, 3, 10, 0], [0, 3, 6, 3, 12, 4]])),
            [
                [(0, 1), (1, 1), (2, 1), (0, 1), (1, 1), (0, 1)],
                [(0, 1), (0, 1), (0, 1), (1, 1), (3, 1), (0, 1)],
                [(0, 1), (0, 1), (0, 1), (0, 1), (0, 1), (1, 1)],
            ],
        )

    def test_tables_of_many_shapes(self):
        for table in many_tables():
            self.assert_reduced(table)

    def test_rows_that_are_sums_of_multiples_of_others(self):
        random = Random(55)
        for height, width, most in ((3, 3, 2), (6, 4, 2), (4, 6, 3), (30, 30, 11)):
            table = table_of(of_rank(random, height, width, most))
            self.assert_reduced(table)
            self.assertEqual(reduced(table)[most:], table_of([[0] * width for row in range(height - most)]))

    def test_row_turns_change_nothing(self):
        random = Random(56)
        for table in many_tables():
            if len(table) < 12 and max(abs(number[0]) for row in table for number in row) < 10 ** 6:
                turned = table_of(row_turned(random, exact_rows(table)))
                self.assertEqual(reduced(turned), reduced(table))

    def test_reduced_of_reduced_is_itself(self):
        for table in many_tables():
            answer = reduced(table)
            self.assertTrue(reduced(answer) == answer)


class Rank(unittest.TestCase):
    def test_examples(self):
        self.assertEqual(rank(table_of([[1, 2], [2, 4]])), 1)
        self.assertEqual(rank(table_of([[1, 2], [2, 5]])), 2)
        self.assertEqual(rank(table_of([[0, 0], [0, 5]])), 1)
        self.assertEqual(rank(table_of([[1, 2, 3]])), 1)
        self.assertEqual(rank(table_of([[1], [2], [3]])), 1)
        self.assertEqual(rank([[(1, 2), (1, 3)], [(3, 2), (1, 1)]]), 1)

    def test_it_is_how_many_reduced_rows_are_not_noughts(self):
        for table in many_tables():
            answer = rank(table)
            self.assertTrue(is_whole(answer))
            self.assertEqual(answer, len([row for row in plainly_reduced(exact_rows(table)) if any(row)]))
            self.assertEqual(answer, len([row for row in reduced(table) if lead_of([n[0] for n in row]) is not None]))

    def test_long_numbers_nearly_dependent(self):
        random = Random(57)
        rows = made_rows(random, 4, 5, long_fraction)
        rows.append([a + b for a, b in zip(rows[0], rows[3])])
        self.assertEqual(rank(table_of(rows)), 4)
        rows[4][4] += Fraction(1, 10 ** 39)
        self.assertEqual(rank(table_of(rows)), 5)

    def test_greatest_tables(self):
        random = Random(58)
        self.assertEqual(rank(table_of(made_rows(random, 30, 30, whole_number))), 30)
        self.assertEqual(rank(table_of(of_rank(random, 30, 30, 29, whole_number))), 29)


class Interface(unittest.TestCase):
    def test_arguments(self):
        self.assertEqual(list(signature(reduced).parameters), ["table"])
        self.assertEqual(list(signature(rank).parameters), ["table"])


if __name__ == "__main__":
    unittest.main()
