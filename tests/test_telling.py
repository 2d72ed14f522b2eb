"""Point [16]: weights that tell a combination, or worths that hide it; and the spread."""

import unittest
from fractions import Fraction
from inspect import signature
from itertools import combinations
from random import Random

from helper import (
    FractionCase, dot, exact, is_fraction, laid_over, lead_of, long, long_fraction, made_rows, plain_rank,
    plainly_reduced, signs, small, told, whole_tables,
)
from trialfield.models import table_of
from trialfield.plans import all_trials
from trialfield.telling import spread, telling
from trialfield.words import cut


def model_tables():
    """Tables of full plans, of cut ones, and of some few trials."""
    things = [(), (0,), (1,), (2,)]
    pairs = things + [(0, 1), (0, 2), (1, 2)]
    whole = all_trials([2, 2, 2])
    return [
        table_of([2, 2, 2], whole, pairs),
        table_of([2, 2, 2], cut(2, 3, [((1, 1, 1), 0)]), pairs),
        table_of([2, 2, 2], cut(2, 3, [((1, 1, 1), 0)]), things),
        table_of([2, 2, 2], whole[:5], things),
        table_of([3, 3], cut(3, 2, [((1, 1), 1)]), [(), (0,), (1,)]),
        table_of([3, 2], all_trials([3, 2]), [(), (0,), (1,), (0, 1)]),
    ]


def combinations_for(random, rows):
    """Noughts, each worth alone, rows and sums of them, and any."""
    width = len(rows[0])
    asked = [[0] * width, list(rows[0]), [sum(row[k] for row in rows) for k in range(width)]]
    asked += [[int(k == place) for k in range(width)] for place in range(width)]
    asked += [[small(random) for k in range(width)] for turn in range(3)]
    factors = [small(random) for row in rows]
    asked.append([sum(f * row[k] for f, row in zip(factors, rows)) for k in range(width)])
    return asked


def of_no_sum(rows):
    """Weights, as many as are free, whose sums with each column are nought, and all of which come of these."""
    reduced = plainly_reduced([[Fraction(n) for n in column] for column in laid_over(rows)])
    leads = [lead_of(row) for row in reduced]
    found = []
    for free in range(len(rows)):
        if free not in leads:
            weights = [Fraction(0)] * len(rows)
            weights[free] = Fraction(1)
            for row, lead in zip(reduced, leads):
                if lead is not None:
                    weights[lead] = -row[free]
            found.append(weights)
    return found


def squared(weights):
    return sum((weight * weight for weight in weights), Fraction(0))


class Telling(FractionCase):
    def assert_told(self, rows, combination):
        answer = telling(rows, combination)
        self.assertIsInstance(answer, tuple)
        self.assertEqual((len(answer), answer[0]), (2, "told"))
        self.assert_fractions(answer[1], len(rows))
        weights = [exact(number) for number in answer[1]]
        self.assertEqual([dot(weights, column) for column in laid_over(rows)], combination)
        self.assert_least(rows, weights)
        self.assertEqual(spread(answer[1]), told(squared(weights)))

    def assert_least(self, rows, weights):
        """Other weights that give the same differ by weights of no sum; along none of these it gets less."""
        others = of_no_sum(rows)
        for other in others:
            self.assertEqual(dot(weights, other), 0)
        for turn, other in enumerate(others[:4]):
            shifted = [a + Fraction(turn - 2, 3) * b for a, b in zip(weights, other)]
            self.assertEqual([dot(shifted, column) for column in laid_over(rows)],
                             [dot(weights, column) for column in laid_over(rows)])
            self.assertGreaterEqual(squared(shifted), squared(weights))

    def assert_hidden(self, rows, combination):
        answer = telling(rows, combination)
        self.assertIsInstance(answer, tuple)
        self.assertEqual((len(answer), answer[0]), (3, "hidden"))
        lists = []
        for numbers in answer[1:]:
            self.assert_fractions(numbers, len(rows[0]))
            lists.append([exact(number) for number in numbers])
        for row in rows:
            self.assertEqual(dot(row, lists[0]), dot(row, lists[1]))
        self.assertNotEqual(dot(combination, lists[0]), dot(combination, lists[1]))

    def assert_answer(self, rows, combination):
        if plain_rank(rows + [combination]) == plain_rank(rows):
            self.assert_told(rows, combination)
            return "told"
        self.assert_hidden(rows, combination)
        return "hidden"

    def test_one_choice_of_weights(self):
        self.assertEqual(telling([[1, 1], [1, -1]], [0, 1]), ("told", [(1, 2), (-1, 2)]))
        self.assertEqual(telling([[2]], [3]), ("told", [(3, 2)]))
        self.assertEqual(telling([[1, 2], [3, 4]], [1, 0]), ("told", [(-2, 1), (1, 1)]))
        self.assertEqual(telling([[1, 2, 3]], [-2, -4, -6]), ("told", [(-2, 1)]))

    def test_many_choices_of_weights(self):
        self.assertEqual(telling([[1], [1], [1]], [1]), ("told", [(1, 3)] * 3))
        self.assertEqual(telling([[1], [2]], [1]), ("told", [(1, 5), (2, 5)]))
        self.assertEqual(telling([[1], [0], [-3]], [2]), ("told", [(1, 5), (0, 1), (-3, 5)]))
        self.assertEqual(
            telling([[1, 1], [1, 1], [1, -1]], [1, 0]), ("told", [(1, 4), (1, 4), (1, 2)])
        )
        self.assertEqual(telling([[1, 2], [2, 4]], [1, 2]), ("told", [(1, 5), (2, 5)]))

    def test_hidden(self):
        self.assert_hidden([[1, 1]], [1, 0])
        self.assert_hidden([[1, 1]], [1, -1])
        self.assert_hidden([[0]], [1])
        self.assert_hidden([[1, 0], [2, 0]], [0, 1])
        self.assert_hidden([[1, 2], [2, 4]], [1, 3])
        self.assert_hidden([[1, 1, 0], [0, 1, 1]], [1, 0, 1])

    def test_the_combination_of_noughts(self):
        for rows in whole_tables() + model_tables():
            self.assertEqual(telling(rows, [0] * len(rows[0])), ("told", [(0, 1)] * len(rows)))

    def test_many_tables(self):
        random = Random(160)
        answers = []
        for rows in whole_tables() + model_tables():
            for combination in combinations_for(random, rows):
                answers.append(self.assert_answer(rows, combination))
        self.assertGreater(answers.count("told"), 200)
        self.assertGreater(answers.count("hidden"), 200)

    def test_all_small_tables(self):
        numbers = (-1, 0, 2)
        rows = [[a, b] for a in numbers for b in numbers]
        for one, other, combination in combinations(rows + rows, 3):
            self.assert_answer([list(one), list(other)], list(combination))

    def test_rows_that_are_alike_share_their_weight(self):
        random = Random(161)
        for turn in range(10):
            rows = made_rows(random, 5, 3, small)
            combination = [sum(row[k] for row in rows) for k in range(3)]
            weights = telling(rows + [list(rows[0])], combination)[1]
            self.assertEqual(weights[0], weights[5])
            self.assert_told(rows + [list(rows[0])], combination)

    def test_a_row_of_noughts_bears_no_weight(self):
        random = Random(162)
        for turn in range(10):
            rows = made_rows(random, 4, 2, small) + [[0, 0]]
            combination = [sum(row[k] for row in rows) for k in range(2)]
            self.assert_told(rows, combination)
            self.assertEqual(telling(rows, combination)[1][4], (0, 1))

    def test_the_mean_of_a_full_plan(self):
        rows = table_of([3, 2], all_trials([3, 2]), [(), (0,), (1,)])
        self.assertEqual(telling(rows, [1, 0, 0, 0]), ("told", [(1, 6)] * 6))

    def test_a_thing_hides_behind_a_pair_on_a_cut(self):
        plan = cut(2, 3, [((1, 1, 1), 0)])
        rows = table_of([2, 2, 2], plan, [(), (0,), (1, 2)])
        self.assert_hidden(rows, [0, 1, 0])
        self.assert_hidden(rows, [0, 1, -1])
        self.assert_told(rows, [0, 1, 1])
        self.assert_told(rows, [1, 0, 0])

    def test_greatest_tables(self):
        random = Random(163)
        for number in (signs, long):
            rows = made_rows(random, 150, 12, number)
            answer = telling(rows, [number(random) for column in range(12)])
            self.assertEqual(answer[0], "told")
            self.assert_fractions(answer[1], 150)
        rows = made_rows(random, 150, 12, signs)
        combination = [small(random) for column in range(12)]
        weights = [exact(number) for number in telling(rows, combination)[1]]
        self.assertEqual([dot(weights, column) for column in laid_over(rows)], combination)
        # Weights are of the least spread just where they are sums of multiples of the columns.
        worths = made_rows(random, 1, 12, small)[0]
        sums = [sum(a * b for a, b in zip(row, worths)) for row in rows]
        turned = [sum(a * b for a, b in zip(sums, column)) for column in laid_over(rows)]
        self.assertEqual(telling(rows, turned), ("told", [(number, 1) for number in sums]))
        self.assert_hidden([row[:11] + [row[0] + row[5]] for row in rows], [0] * 11 + [1])
        self.assert_hidden(made_rows(random, 11, 12, long), made_rows(random, 1, 12, long)[0])


class Spread(unittest.TestCase):
    def test_examples(self):
        self.assertEqual(spread([(1, 2), (-1, 2)]), (1, 2))
        self.assertEqual(spread([(1, 3)] * 3), (1, 3))
        self.assertEqual(spread([(0, 1)]), (0, 1))
        self.assertEqual(spread([(-3, 1)]), (9, 1))
        self.assertEqual(spread([(1, 2), (1, 3), (1, 6)]), (7, 18))
        self.assertEqual(spread([(3, 5), (4, 5)]), (1, 1))

    def test_any_weights(self):
        random = Random(164)
        for count in (1, 2, 5, 30, 150):
            for number in (lambda r: Fraction(small(r), r.randint(1, 9)), long_fraction):
                weights = [told(number(random)) for row in range(count)]
                answer = spread(weights)
                self.assertTrue(is_fraction(answer))
                self.assertEqual(answer, told(squared([exact(weight) for weight in weights])))


class Interface(unittest.TestCase):
    def test_arguments(self):
        self.assertEqual(list(signature(telling).parameters), ["rows", "combination"])
        self.assertEqual(list(signature(spread).parameters), ["weights"])


if __name__ == "__main__":
    unittest.main()
