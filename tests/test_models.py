"""Point [15]: the columns of a model, and its table with a plan."""

import unittest
from inspect import signature
from itertools import combinations
from random import Random

from helper import CONTRASTS, is_whole, plain_columns, plain_table
from trialfield.models import columns_of, table_of
from trialfield.plans import all_trials

CASES = (
    ([2], [()]),
    ([7], [()]),
    ([7], [(0,)]),
    ([7], [(0,), ()]),
    ([2, 3], [(), (0,), (1,), (0, 1)]),
    ([2, 3], [(0, 1), (1,), (), (0,)]),
    ([3, 2], [(1,), (0, 1)]),
    ([3, 4], [(), (0, 1), (0,), (1,)]),
    ([2, 2, 2], [(), (0,), (1,), (2,), (0, 1), (0, 2), (1, 2), (0, 1, 2)]),
    ([2, 3, 4], [(0, 1, 2), (0, 2), (2,), ()]),
    ([3, 2, 5], [(2,), (0, 1, 2)]),
    ([5, 2, 4], [(1, 2), (0, 1), (0,)]),
    ([3, 3, 2], [(0, 1, 2), (0, 2), (1, 2)]),
    ([6, 2], [(0, 1), (0,), ()]),
    ([2] * 8, [(7,), (0, 7), (1, 3, 5), (), (6,)]),
    ([2, 3, 4, 5, 7, 2, 2, 3], [(5, 6, 7), (0, 3), ()]),
)


def some_plan(levels):
    """In no order, some trials more than once."""
    random = Random(len(levels) + sum(levels))
    plan = [tuple(random.randrange(steps) for steps in levels) for trial in range(25)]
    return plan + plan[:3]


class ColumnsOf(unittest.TestCase):
    def test_the_mean_alone(self):
        self.assertEqual(columns_of([2], [()]), [((), ())])
        self.assertEqual(columns_of([7, 3], [()]), [((), ())])

    def test_effects_of_one_thing(self):
        self.assertEqual(columns_of([2, 4], [(0,)]), [((0,), (1,))])
        self.assertEqual(columns_of([2, 4], [(1,)]), [((1,), (1,)), ((1,), (2,)), ((1,), (3,))])

    def test_effects_of_two_things(self):
        self.assertEqual(
            columns_of([3, 2, 3], [(0, 2)]),
            [((0, 2), (1, 1)), ((0, 2), (1, 2)), ((0, 2), (2, 1)), ((0, 2), (2, 2))],
        )

    def test_effects_of_three_things(self):
        self.assertEqual(
            columns_of([3, 2, 4], [(0, 1, 2)]),
            [((0, 1, 2), numbers) for numbers in ((1, 1, 1), (1, 1, 2), (1, 1, 3), (2, 1, 1), (2, 1, 2), (2, 1, 3))],
        )

    def test_the_order_of_the_model(self):
        self.assertEqual(
            columns_of([2, 3], [(0, 1), (1,), (), (0,)]),
            [((0, 1), (1, 1)), ((0, 1), (1, 2)), ((1,), (1,)), ((1,), (2,)), ((), ()), ((0,), (1,))],
        )

    def test_many_models(self):
        for levels, model in CASES:
            answer = columns_of(levels, model)
            self.assertIsInstance(answer, list)
            self.assertEqual(answer, plain_columns(levels, model))
            for column in answer:
                self.assertIsInstance(column, tuple)
                self.assertEqual([isinstance(part, tuple) for part in column], [True, True])
                self.assertTrue(all(is_whole(number) for part in column for number in part))


class TableOf(unittest.TestCase):
    def assert_table(self, levels, plan, model):
        answer = table_of(levels, plan, model)
        self.assertIsInstance(answer, list)
        self.assertEqual(len(answer), len(plan))
        for row in answer:
            self.assertIsInstance(row, list)
            self.assertTrue(all(is_whole(number) for number in row))
        self.assertEqual(answer, plain_table(levels, plan, model))

    def test_examples(self):
        self.assertEqual(table_of([2], [(0,), (1,)], [(), (0,)]), [[1, 1], [1, -1]])
        self.assertEqual(table_of([3], [(2,), (0,), (1,)], [(0,)]), [[0, -2], [1, 1], [-1, 1]])
        self.assertEqual(
            table_of([4], [(0,), (1,), (2,), (3,)], [(0,)]), [[1, 1, 1], [-1, 1, 1], [0, -2, 1], [0, 0, -3]]
        )
        self.assertEqual(
            table_of([2, 3], [(1, 2), (1, 0), (0, 1)], [(), (0, 1), (0,)]), [[1, 0, 2, -1], [1, -1, -1, -1], [1, -1, 1, 1]]
        )

    def test_the_mean_is_1_everywhere(self):
        self.assertEqual(table_of([3, 2], [(2, 1), (0, 0), (2, 1)], [()]), [[1], [1], [1]])

    def test_each_contrast_at_each_step(self):
        for steps in CONTRASTS:
            plan = [(step,) for step in range(steps)]
            answer = table_of([steps], plan, [(0,)])
            self.assertEqual([list(column) for column in zip(*answer)], CONTRASTS[steps])

    def test_one_trial(self):
        for levels, model in CASES:
            self.assert_table(levels, [tuple(steps - 1 for steps in levels)], model)
            self.assert_table(levels, [(0,) * len(levels)], model)

    def test_rows_in_the_order_of_the_plan(self):
        for levels, model in CASES:
            plan = some_plan(levels)
            self.assert_table(levels, plan, model)
            self.assertEqual(table_of(levels, plan[::-1], model), table_of(levels, plan, model)[::-1])

    def test_the_greatest_plan(self):
        random = Random(15)
        levels = [7, 3, 2]
        plan = [tuple(random.randrange(steps) for steps in levels) for trial in range(150)]
        self.assert_table(levels, plan, [(), (0,), (1,), (1, 2), (2,)])

    def test_of_a_full_plan_the_columns_of_unlike_effects_stand_at_right_angles(self):
        for levels in ([2, 2, 2], [2, 3], [3, 4], [5, 2, 3], [7, 2]):
            things = range(len(levels))
            model = [effect for count in range(len(levels) + 1) for effect in combinations(things, count)]
            columns = plain_columns(levels, model)
            laid = list(zip(*table_of(levels, all_trials(levels), model)))
            self.assertEqual(len(laid), len(columns))
            for one in range(len(columns)):
                for other in range(one):
                    if columns[one][0] != columns[other][0]:
                        self.assertEqual(sum(a * b for a, b in zip(laid[one], laid[other])), 0)
                self.assertNotEqual(sum(a * a for a in laid[one]), 0)


class Interface(unittest.TestCase):
    def test_arguments(self):
        self.assertEqual(list(signature(columns_of).parameters), ["levels", "model"])
        self.assertEqual(list(signature(table_of).parameters), ["levels", "plan", "model"])


if __name__ == "__main__":
    unittest.main()
