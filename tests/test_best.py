"""Point [25]: the worth of a plan for a model, and the best of all choices of trials."""

import unittest
from fractions import Fraction
from inspect import signature
from itertools import combinations
from math import comb, prod
from random import Random

from helper import any_plan, full, is_whole, laid_over, plain_table, plainly_even_to, summed_determinant
from trialfield.arrays import doubled, mirrored, of_prime, plan_of
from trialfield.best import best, worth

# Levels and models of few columns.
CASES = (
    ([2], [()]),
    ([2], [(0,)]),
    ([2], [(), (0,)]),
    ([4], [(0,), ()]),
    ([7], [(0,)]),
    ([2, 2], [(), (0,), (1,)]),
    ([2, 2], [(), (0,), (1,), (0, 1)]),
    ([2, 3], [()]),
    ([2, 3], [(1,)]),
    ([2, 3], [(), (1,), (0,)]),
    ([3, 2], [(0, 1), (1,)]),
    ([3, 3], [(), (0,), (1,)]),
    ([2, 2, 2], [(), (0,), (1,), (2,)]),
    ([2, 2, 2], [(0, 1, 2), (0, 1), ()]),
    ([2, 3, 2], [(2,), (1, 2)]),
)


def products_of(levels, plan, model):
    columns = laid_over(plain_table(levels, plan, model))
    return [[sum(a * b for a, b in zip(one, other)) for other in columns] for one in columns]


def plain_worth(levels, plan, model):
    """By the sum over all orders of the columns."""
    return summed_determinant(products_of(levels, plan, model))


class Worth(unittest.TestCase):
    def assert_worth(self, levels, plan, model, number):
        answer = worth(levels, plan, model)
        self.assertTrue(is_whole(answer))
        self.assertEqual(answer, number)

    def test_examples(self):
        self.assert_worth([2], [(0,), (1,)], [(), (0,)], 4)
        self.assert_worth([2], [(0,), (0,), (1,)], [(), (0,)], 8)
        self.assert_worth([2], [(0,), (0,)], [(), (0,)], 0)
        self.assert_worth([3], [(0,), (1,), (2,)], [(), (0,)], 36)
        self.assert_worth([3], [(0,), (1,), (2,)], [(0,)], 12)
        self.assert_worth([2, 2], [(0, 0), (0, 1), (1, 0), (1, 1)], [(), (0,), (1,)], 64)
        self.assert_worth([2, 2], [(0, 0), (0, 1), (1, 0)], [(), (0,), (1,)], 16)

    def test_against_the_determinant_by_orders(self):
        random = Random(25)
        positive = 0
        for levels, model in CASES:
            for count in (1, 2, 3, 4, 5, 6, 9, 20):
                plan = any_plan(random, levels, count)
                self.assert_worth(levels, plan, model, plain_worth(levels, plan, model))
                positive += worth(levels, plan, model) > 0
        self.assertGreater(positive, 40)

    def test_trials_more_than_once(self):
        random = Random(250)
        for levels, model in CASES:
            plan = any_plan(random, levels, 5)
            columns = len(products_of(levels, plan, model))
            number = plain_worth(levels, plan, model)
            for times in (2, 3, 10):
                self.assert_worth(levels, plan * times, model, number * times ** columns)
            more = plan + [plan[0], plan[0], plan[3]]
            self.assert_worth(levels, more, model, plain_worth(levels, more, model))

    def test_order_of_trials_and_effects_changes_nothing(self):
        random = Random(251)
        for levels, model in CASES:
            plan = any_plan(random, levels, 8)
            self.assertEqual(worth(levels, plan[::-1], model), worth(levels, plan, model))
            self.assertEqual(worth(levels, plan, model[::-1]), worth(levels, plan, model))

    def test_fewer_trials_than_columns(self):
        random = Random(252)
        seen = 0
        for levels, model in CASES:
            columns = len(plain_table(levels, [(0,) * len(levels)], model)[0])
            for count in range(1, columns):
                self.assert_worth(levels, any_plan(random, levels, count), model, 0)
                seen += 1
        self.assertGreater(seen, 15)

    def test_a_model_of_the_mean_alone(self):
        random = Random(253)
        for levels in ([2], [7], [2, 3], [5, 2, 7, 3], [2] * 8):
            for count in (1, 2, 7, 150):
                self.assert_worth(levels, any_plan(random, levels, count), [()], count)

    def test_as_many_trials_as_columns(self):
        # Then it is the square of the table's own determinant.
        random = Random(254)
        for levels, model in CASES:
            count = len(plain_table(levels, [(0,) * len(levels)], model)[0])
            for turn in range(4):
                plan = any_plan(random, levels, count)
                self.assert_worth(levels, plan, model, summed_determinant(plain_table(levels, plan, model)) ** 2)

    def test_many_columns(self):
        # On a full plan all columns stand at right angles: the worth is the product of their squares. One trial
        # more puts to it its share with each column.
        pairs = [(0, 1), (2, 3), (4, 5), (0, 6)]
        cases = [([2] * 7, [()] + [(k,) for k in range(7)] + pairs), ([5, 5], [(), (0,), (1,)])]
        cases += [
            ([2, 3, 7], [(2,), (), (1,), (0,)]), ([7, 7], [(0,), (1,)]), ([4, 5], [(0, 1)]),
            ([2, 7], [(0, 1), (1,)]),
        ]
        for levels, model in cases:
            rows = plain_table(levels, full(levels), model)
            lengths = [sum(number ** 2 for number in column) for column in laid_over(rows)]
            self.assertLessEqual(len(lengths), 12)
            self.assert_worth(levels, full(levels), model, prod(lengths))
            for place in (0, len(rows) // 3, len(rows) - 1):
                share = 1 + sum(Fraction(number ** 2, length) for number, length in zip(rows[place], lengths))
                more = full(levels) + [full(levels)[place]]
                self.assert_worth(levels, more, model, prod(lengths) * share)


def lists_of_trials(levels):
    """All trials in order, in another order, and some alone."""
    random = Random(255)
    trials = full(levels)
    shuffled = random.sample(trials, len(trials))
    return [trials, trials[::-1], shuffled, shuffled[:max(1, len(trials) // 2)], shuffled[:1]]


class Best(unittest.TestCase):
    def assert_best(self, levels, trials, model, many, greatest):
        answer = best(levels, trials, model, many)
        self.assertIsInstance(answer, tuple)
        self.assertEqual(len(answer), 2)
        plan, number = answer
        self.assertIsInstance(plan, list)
        self.assertEqual(len(plan), many)
        places = [trials.index(trial) for trial in plan]
        self.assertEqual(places, sorted(set(places)))
        self.assertTrue(is_whole(number))
        self.assertEqual(number, greatest)
        return plan

    def assert_best_of_all(self, levels, trials, model, many):
        greatest = max(plain_worth(levels, list(plan), model) for plan in combinations(trials, many))
        plan = self.assert_best(levels, trials, model, many, greatest)
        self.assertEqual(plain_worth(levels, plan, model), greatest)
        return greatest

    def test_examples(self):
        self.assertEqual(best([2], [(0,), (1,)], [(), (0,)], 2), ([(0,), (1,)], 4))
        self.assertEqual(best([2], [(1,), (0,)], [(), (0,)], 2), ([(1,), (0,)], 4))
        self.assertEqual(best([3], [(0,), (1,), (2,)], [(0,)], 3), ([(0,), (1,), (2,)], 12))
        self.assertEqual(best([4], [(0,), (3,), (1,)], [()], 3), ([(0,), (3,), (1,)], 3))
        self.assertEqual(best([3], [(1,)], [(0,)], 1), ([(1,)], 0))

    def test_against_all_lists_of_so_many(self):
        seen = []
        for levels, model in CASES:
            for trials in lists_of_trials(levels):
                for many in range(1, len(trials) + 1):
                    if comb(len(trials), many) <= 100:
                        seen.append(self.assert_best_of_all(levels, trials, model, many) > 0)
        self.assertGreater(seen.count(True), 100)
        self.assertGreater(seen.count(False), 50)

    def test_one_best_alone_wherever_it_stands(self):
        # No other four of the six are even to two columns, and these alone come to 4 to the power of 4.
        good = [(0, 0, 1), (0, 1, 0), (1, 0, 0), (1, 1, 1)]
        poor = [(0, 0, 0), (0, 1, 1)]
        model = [(), (0,), (1,), (2,)]
        for places in combinations(range(6), 4):
            trials = list(poor)
            for place, trial in zip(places, good):
                trials.insert(place, trial)
            self.assertEqual(best([2, 2, 2], trials, model, 4), (good, 256))

    def test_fewer_than_columns_come_to_nought(self):
        for many in (1, 2, 3):
            self.assert_best([2, 2, 2], full([2, 2, 2]), [(), (0,), (1,), (2,)], many, 0)

    def test_the_mean_alone(self):
        for many in (1, 2, 3, 6):
            self.assert_best([2, 3], full([2, 3]), [()], many, many)

    def test_one_best_alone_among_many_choices(self):
        # Six trials that are alike in the model's things, and four that are even to two columns there.
        levels, model = [2] * 6, [(), (0,), (1,), (2,)]
        alike = [(0, 0, 0) + others for others in full([2, 2, 2])[:6]]
        good = [(0, 0, 1, 1, 1, 1), (0, 1, 0, 0, 0, 0), (1, 0, 0, 0, 1, 0), (1, 1, 1, 0, 0, 0)]
        for place in range(7):
            trials = alike[:place] + good + alike[place:]
            self.assertEqual(best(levels, trials, model, 4), (good, 256))
        self.assertEqual(best(levels, good[:2] + alike + good[2:], model, 4), (good, 256))

    def test_most_choices(self):
        random = Random(258)
        trials = random.sample(full([3, 5, 5]), 25)
        self.assertEqual(comb(25, 2), 300)
        self.assert_best_of_all([3, 5, 5], trials, [(0,)], 2)
        self.assert_best_of_all([3, 5, 5], trials, [(), (0,)], 23)
        self.assert_best_of_all([3, 5, 5], trials[:13], [(0,)], 3)
        self.assert_best_of_all([3, 5, 5], trials[:24], [(), (1,)], 23)
        self.assert_best_of_all([3, 5, 5], trials, [(), (1,)], 25)

    def test_many_trials(self):
        levels = [2, 3, 5, 5]
        trials = Random(256).sample(full(levels), 150)
        model = [(), (0,)]
        self.assert_best(levels, trials, model, 150, 150 * 150)
        self.assert_best(levels, trials, model, 149, 149 * 149 - 1)
        self.assert_best(levels, trials, [(3,)], 1, 0)
        self.assert_best(levels, trials, [(0,)], 1, 1)
        self.assert_best([7, 7, 7], full([7, 7, 7])[:300], [()], 1, 1)


class TwoSteps(unittest.TestCase):
    """Of the mean and things alone, of two steps: as many trials to the power of the columns is never less."""

    def test_no_worth_is_above(self):
        random = Random(257)
        for things in range(1, 9):
            model = [()] + [(thing,) for thing in range(things)]
            for count in (1, 2, 3, 4, 8, 9, 12, 16, 150):
                for turn in range(4):
                    plan = any_plan(random, [2] * things, count)
                    self.assertLessEqual(worth([2] * things, plan, model), count ** (things + 1))

    def test_no_best_is_above(self):
        for things in (1, 2, 3):
            model = [()] + [(thing,) for thing in range(things)]
            for many in range(1, 2 ** things + 1):
                number = best([2] * things, full([2] * things), model, many)[1]
                self.assertLessEqual(number, many ** (things + 1))

    def test_plans_even_to_two_columns_come_to_it(self):
        plans = [full([2] * things) for things in (2, 3, 5, 7)]
        plans += [
            plan_of(of_prime(3)), plan_of(of_prime(7)), mirrored(plan_of(of_prime(7))),
            plan_of(doubled(of_prime(3))),
        ]
        plans += [[trial[:8] for trial in plan_of(of_prime(p))] for p in (11, 19)]
        for plan in plans:
            things = len(plan[0])
            self.assertTrue(plainly_even_to(plan, [2] * things, 2))
            model = [()] + [(thing,) for thing in range(things)]
            self.assertEqual(worth([2] * things, plan, model), len(plan) ** (things + 1))

    def test_the_best_of_all_is_even_where_such_a_plan_is_among_them(self):
        plan, number = best([2, 2, 2], full([2, 2, 2]), [(), (0,), (1,), (2,)], 4)
        self.assertEqual(number, 256)
        self.assertTrue(plainly_even_to(plan, [2, 2, 2], 2))


class Interface(unittest.TestCase):
    def test_arguments(self):
        self.assertEqual(list(signature(worth).parameters), ["levels", "plan", "model"])
        self.assertEqual(list(signature(best).parameters), ["levels", "trials", "model", "many"])


if __name__ == "__main__":
    unittest.main()
