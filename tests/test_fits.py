"""Points [17], [18]: fits with what is left, and squares taken apart by effects."""

import unittest
from fractions import Fraction
from inspect import signature
from itertools import permutations
from random import Random

from helper import (
    FractionCase, dot, exact, full, is_fraction, laid_over, long, made_rows, plain_fitted_square, plain_square,
    plain_table, plainly_left, signs, small, told, whole_of_rank, whole_tables,
)
from trialfield.fits import fit, squares

THINGS = [(), (0,), (1,), (2,)]
PAIRS = THINGS + [(0, 1), (0, 2), (1, 2)]


def some_results(random, rows):
    """Noughts, few figures, many, the first alone, and sums of multiples of the columns."""
    height = len(rows)
    worths = [small(random) for column in rows[0]]
    return [
        [0] * height,
        [small(random) for row in rows],
        [long(random) for row in rows],
        [1] + [0] * (height - 1),
        [sum(a * b for a, b in zip(row, worths)) for row in rows],
        [row[-1] for row in rows],
    ]


class Fit(FractionCase):
    def assert_fit(self, rows, results):
        answer = fit(rows, results)
        self.assertIsInstance(answer, tuple)
        worths, fitted, left = answer
        self.assert_fractions(worths, len(rows[0]))
        self.assert_fractions(fitted, len(rows))
        self.assert_fractions(left, len(rows))
        exact_worths = [exact(number) for number in worths]
        exact_left = [exact(number) for number in left]
        self.assertEqual(fitted, [told(dot(row, exact_worths)) for row in rows])
        self.assertEqual(left, [told(result - exact(number)) for result, number in zip(results, fitted)])
        for column in laid_over(rows):
            self.assertEqual(dot(exact_left, column), 0)
        return exact_left

    def test_one_choice_of_worths(self):
        self.assertEqual(fit([[1], [1], [1]], [1, 2, 6]), ([(3, 1)], [(3, 1)] * 3, [(-2, 1), (-1, 1), (3, 1)]))
        self.assertEqual(fit([[2]], [3]), ([(3, 2)], [(3, 1)], [(0, 1)]))
        self.assertEqual(fit([[1], [2]], [1, 1]), ([(3, 5)], [(3, 5), (6, 5)], [(2, 5), (-1, 5)]))
        self.assertEqual(
            fit([[1, 1], [1, -1], [1, 1]], [1, 2, 4]),
            ([(9, 4), (1, 4)], [(5, 2), (2, 1), (5, 2)], [(-3, 2), (0, 1), (3, 2)]),
        )
        self.assertEqual(
            fit([[1, 0], [1, 1], [1, 2]], [0, 0, 3]),
            ([(-1, 2), (3, 2)], [(-1, 2), (1, 1), (5, 2)], [(1, 2), (-1, 1), (1, 2)]),
        )

    def test_columns_of_noughts_fit_nothing(self):
        worths, fitted, left = fit([[0, 0], [0, 0], [0, 0]], [5, -2, 0])
        self.assertEqual(len(worths), 2)
        self.assertEqual((fitted, left), ([(0, 1)] * 3, [(5, 1), (-2, 1), (0, 1)]))
        self.assert_fit([[0], [0]], [3, 4])
        self.assert_fit([[0, 1], [0, 2]], [3, 4])
        self.assert_fit([[1, 0, 1], [2, 0, 5]], [3, 4])

    def test_columns_alike_or_sums_of_multiples(self):
        self.assertEqual(fit([[1, 1], [1, 1]], [1, 2])[1:], ([(3, 2)] * 2, [(-1, 2), (1, 2)]))
        self.assertEqual(fit([[1, -2], [2, -4]], [0, 5])[1:], ([(2, 1), (4, 1)], [(-2, 1), (1, 1)]))
        self.assert_fit([[1, 1], [1, 1]], [1, 2])
        self.assert_fit([[1, -2], [2, -4]], [0, 5])
        self.assert_fit([[1, 0, 2], [0, 1, 3], [1, 1, 5], [2, -1, 1]], [1, 1, 0, 7])

    def test_one_row(self):
        for row in ([3], [0], [1, 2], [0, 5], [1, -1, 0, 4], [0] * 12):
            for result in (0, 1, -7, 10 ** 20 - 1):
                left = self.assert_fit([row], [result])
                self.assertEqual(left, [0 if any(row) else result])

    def test_more_columns_than_rows_leave_nothing_where_the_rows_are_free(self):
        for rows in ([[1, 2, 3], [0, 1, 1]], [[1, 1, 1, 1], [1, -1, 1, -1], [1, 1, -1, -1]]):
            self.assertEqual(self.assert_fit(rows, list(range(5, 5 + len(rows)))), [0] * len(rows))
        self.assert_fit([[1, 2, 3], [2, 4, 6]], [1, 1])

    def test_many_tables(self):
        random = Random(170)
        for rows in whole_tables():
            for results in some_results(random, rows):
                self.assertEqual(self.assert_fit(rows, results), plainly_left(rows, results))

    def test_results_that_are_sums_of_multiples_leave_nothing(self):
        random = Random(171)
        for rows in whole_tables():
            worths = [small(random) for column in rows[0]]
            results = [sum(a * b for a, b in zip(row, worths)) for row in rows]
            self.assertEqual(fit(rows, results)[1:], ([(result, 1) for result in results], [(0, 1)] * len(rows)))

    def test_results_of_noughts(self):
        for rows in whole_tables():
            self.assertEqual(fit(rows, [0] * len(rows))[1:], ([(0, 1)] * len(rows), [(0, 1)] * len(rows)))

    def test_nothing_fits_better(self):
        random = Random(172)
        for turn in range(20):
            rows = made_rows(random, 6, 3, small)
            results = [small(random) for row in rows]
            worths, fitted, left = fit(rows, results)
            least = plain_square([exact(number) for number in left])
            for other in range(10):
                shifted = [exact(worth) + Fraction(small(random), 4) for worth in worths]
                away = [result - dot(row, shifted) for row, result in zip(rows, results)]
                self.assertGreaterEqual(plain_square(away), least)

    def test_greatest_tables(self):
        random = Random(173)
        self.assert_fit(made_rows(random, 150, 12, signs), [long(random) for row in range(150)])
        self.assert_fit(made_rows(random, 150, 12, long), [long(random) for row in range(150)])
        self.assert_fit(whole_of_rank(random, 150, 12, 5), [long(random) for row in range(150)])
        self.assert_fit(made_rows(random, 1, 12, long), [long(random)])
        self.assert_fit(made_rows(random, 150, 1, long), [long(random) for row in range(150)])


class Squares(unittest.TestCase):
    def assert_squares(self, levels, plan, model, results):
        """Against fits reckoned plainly, with all effects up to each one and with all ahead of it."""
        answer = squares(levels, plan, model, results)
        self.assertIsInstance(answer, list)
        self.assertEqual([name for name, square in answer], model + ["left"])
        for part in answer:
            self.assertIsInstance(part, tuple)
            self.assertTrue(is_fraction(part[1]), part)
            self.assertGreaterEqual(part[1][0], 0)
        self.assertEqual(sum(exact(square) for name, square in answer), sum(n * n for n in results))
        for place in range(len(model)):
            self.assertEqual(exact(answer[place][1]), plain_fitted_square(levels, plan, model[:place + 1], results)
                             - plain_fitted_square(levels, plan, model[:place], results))
        left = plainly_left(plain_table(levels, plan, model), results)
        self.assertEqual(answer[-1], ("left", told(plain_square(left))))
        return answer

    def test_examples(self):
        plan = [(0, 0), (0, 1), (1, 0), (1, 1)]
        self.assertEqual(
            squares([2, 2], plan, [(), (0,), (1,)], [1, 2, 3, 5]),
            [((), (121, 4)), ((0,), (25, 4)), ((1,), (9, 4)), ("left", (1, 4))],
        )
        self.assertEqual(squares([3], [(0,), (1,), (2,)], [(0,)], [3, 0, 0]), [((0,), (6, 1)), ("left", (3, 1))])
        self.assertEqual(
            squares([3], [(0,), (1,), (2,)], [(), (0,)], [3, 0, 0]), [((), (3, 1)), ((0,), (6, 1)), ("left", (0, 1))]
        )

    def test_the_mean_alone(self):
        self.assertEqual(squares([2], [(0,)], [()], [7]), [((), (49, 1)), ("left", (0, 1))])
        self.assertEqual(squares([2], [(0,), (1,), (0,)], [()], [1, 2, 0]), [((), (3, 1)), ("left", (2, 1))])
        self.assertEqual(squares([4, 2], [(3, 1)] * 2, [()], [3, -3]), [((), (0, 1)), ("left", (18, 1))])
        self.assert_squares([5, 3], full([5, 3]), [()], list(range(-7, 8)))

    def test_several_effects_in_several_orders(self):
        random = Random(180)
        levels = [2, 3, 2]
        plan = [tuple(random.randrange(steps) for steps in levels) for trial in range(9)]
        for model in ([(), (0,), (1,)], [(1,), (0,), ()], [(0, 1), (2,), ()], [(2,), (0, 2), (1,), (), (0,)]):
            for order in permutations(model):
                self.assert_squares(levels, plan, list(order), [small(random) for trial in plan])

    def test_the_order_counts_where_columns_are_not_at_right_angles(self):
        plan, results = [(0, 0), (0, 0), (1, 1), (0, 1)], [1, 2, 7, 3]
        first = dict(self.assert_squares([2, 2], plan, [(), (0,), (1,)], results))
        second = dict(self.assert_squares([2, 2], plan, [(), (1,), (0,)], results))
        self.assertNotEqual(first[(0,)], second[(0,)])
        self.assertNotEqual(first[(1,)], second[(1,)])
        self.assertEqual(first["left"], second["left"])

    def test_against_two_fits_of_the_program(self):
        random = Random(181)
        levels, model = [3, 2, 2], [(), (0,), (1,), (0, 1), (2,)]
        plan = [tuple(random.randrange(steps) for steps in levels) for trial in range(15)]
        results = [long(random) for trial in plan]
        answer = squares(levels, plan, model, results)
        ahead = Fraction(0)
        for place in range(len(model)):
            fitted = fit(plain_table(levels, plan, model[:place + 1]), results)[1]
            reached = plain_square([exact(number) for number in fitted])
            self.assertEqual(answer[place], (model[place], told(reached - ahead)))
            ahead = reached

    def test_effects_that_are_sums_of_multiples_of_those_ahead(self):
        half = [trial for trial in full([2, 2, 2]) if sum(trial) % 2 == 0]
        answer = dict(self.assert_squares([2, 2, 2], half, PAIRS, [3, 1, -4, 8]))
        for effect in ((0, 1), (0, 2), (1, 2)):
            self.assertEqual(answer[effect], (0, 1))
        answer = dict(self.assert_squares([2, 2, 2], half, PAIRS[::-1], [3, 1, -4, 8]))
        for effect in ((0,), (1,), (2,)):
            self.assertEqual(answer[effect], (0, 1))
        # A thing that is never set to some of its steps shares columns with the mean.
        answer = self.assert_squares([3, 2], [(0, 0), (0, 1), (0, 0)], [(), (0,), (1,)], [5, 2, 2])
        self.assertEqual(answer[1], ((0,), (0, 1)))

    def test_one_trial(self):
        answer = self.assert_squares([3, 2], [(2, 1)], [(0,), (), (1,), (0, 1)], [-4])
        self.assertEqual(answer[0], ((0,), (16, 1)))
        self.assertEqual([square for name, square in answer[1:]], [(0, 1)] * 4)
        self.assertEqual(self.assert_squares([4], [(3,)], [(0,)], [2])[0], ((0,), (4, 1)))

    def test_trials_more_than_once(self):
        random = Random(182)
        for plan in ([(0, 0)] * 4, [(0, 1), (1, 2), (0, 1), (1, 0), (1, 2)], full([2, 3]) * 3):
            self.assert_squares([2, 3], plan, [(), (0,), (1,), (0, 1)], [small(random) for trial in plan])

    def test_results_of_noughts(self):
        plan = full([2, 3])[1:]
        self.assertEqual(
            squares([2, 3], plan, [(), (1,)], [0] * 5), [((), (0, 1)), ((1,), (0, 1)), ("left", (0, 1))]
        )

    def test_the_same_in_every_order_on_a_full_plan(self):
        random = Random(183)
        for levels, model in (
            ([2, 2], [(), (0,), (1,), (0, 1)]),
            ([2, 3], [(), (0,), (1,), (0, 1)]),
            ([3, 2, 2], [(0,), (1, 2), (), (0, 2)]),
            ([4, 3], [(1,), (), (0, 1), (0,)]),
        ):
            plan = full(levels)
            results = [small(random) for trial in plan]
            first = dict(self.assert_squares(levels, plan, model, results))
            for order in permutations(model):
                answer = squares(levels, plan, list(order), results)
                self.assertEqual([name for name, square in answer], list(order) + ["left"])
                self.assertEqual(dict(answer), first)

    def test_the_same_in_every_order_on_a_plan_that_is_even_to_two_columns(self):
        random = Random(184)
        half = [trial for trial in full([2, 2, 2]) if sum(trial) % 2 == 1]
        third = [trial for trial in full([3, 3, 3]) if sum(trial) % 3 == 1]
        for levels, plan in (([2] * 3, half), ([2] * 3, half * 2), ([3] * 3, third)):
            results = [small(random) for trial in plan]
            first = dict(self.assert_squares(levels, plan, THINGS, results))
            for order in permutations(THINGS):
                self.assertEqual(dict(squares(levels, plan, list(order), results)), first)

    def test_the_whole_model_leaves_nothing_of_a_full_plan(self):
        answer = self.assert_squares([2, 2, 2], full([2, 2, 2]), PAIRS + [(0, 1, 2)], [4, 0, 1, 1, -3, 2, 9, 5])
        self.assertEqual(answer[-1], ("left", (0, 1)))

    def test_greatest_plans(self):
        random = Random(185)
        plan = [tuple(random.randrange(steps) for steps in (7, 3, 2)) for trial in range(150)]
        self.assert_squares([7, 3, 2], plan, [(), (0,), (1,), (1, 2), (2,)], [long(random) for trial in plan])
        plan = [tuple(random.randrange(2) for thing in range(8)) for trial in range(150)]
        model = [(thing,) for thing in range(8)] + [(), (0, 7), (1, 2, 3), (4, 5)]
        self.assert_squares([2] * 8, plan, model, [long(random) for trial in plan])


class Interface(unittest.TestCase):
    def test_arguments(self):
        self.assertEqual(list(signature(fit).parameters), ["rows", "results"])
        self.assertEqual(list(signature(squares).parameters), ["levels", "plan", "model", "results"])


if __name__ == "__main__":
    unittest.main()
