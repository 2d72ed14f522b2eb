"""Point [19]: the sums of a full plan's results with all contrasts, and the results whose sums they are."""

import unittest
from fractions import Fraction
from inspect import signature
from math import prod
from random import Random

from helper import CONTRASTS, exact, full, is_fraction, is_whole, long, small, sparse, told
from trialfield.quick import results_of, sums_of

SOME_LEVELS = (
    [2], [3], [4], [5], [6], [7], [2, 2], [2, 3], [3, 2], [7, 2], [2, 7], [3, 3], [4, 5], [2, 3, 4], [4, 3, 2], [5, 2, 3],
    [3, 3, 3], [2, 2, 2, 2], [2, 3, 2, 3], [7, 7], [7, 3, 7], [5, 5, 6], [2, 3, 5, 5], [2] * 7,
)


def value(steps, c, step):
    return CONTRASTS[steps][c - 1][step] if c else 1


def plain_sums(levels, results):
    """Place by place over all trials, as the point says it."""
    trials = full(levels)
    return [
        sum(
            result * prod(value(steps, c, step) for steps, c, step in zip(levels, chosen, trial))
            for trial, result in zip(trials, results, strict=True)
        )
        for chosen in trials
    ]


def lists_for(random, levels):
    count = prod(levels)
    return [
        [0] * count,
        [1] * count,
        [0] * (count - 1) + [1],
        list(range(count)),
        [small(random) for place in range(count)],
        [sparse(random) for place in range(count)],
        [long(random) for place in range(count)],
    ]


class SumsOf(unittest.TestCase):
    def assert_sums(self, levels, results):
        answer = sums_of(levels, results)
        self.assertIsInstance(answer, list)
        self.assertTrue(all(is_whole(number) for number in answer))
        self.assertEqual(answer, plain_sums(levels, results))

    def test_one_thing(self):
        self.assertEqual(sums_of([2], [5, 3]), [8, 2])
        self.assertEqual(sums_of([3], [1, 2, 4]), [7, -1, -5])
        self.assertEqual(sums_of([4], [1, 0, 0, 0]), [1, 1, 1, 1])
        self.assertEqual(sums_of([4], [0, 0, 0, 1]), [1, 0, 0, -3])
        self.assertEqual(sums_of([5], [1, 2, 3, 4, 5]), [15, -1, -3, -6, -10])

    def test_several_things(self):
        self.assertEqual(sums_of([2, 2], [1, 2, 3, 5]), [11, -3, -5, 1])
        self.assertEqual(sums_of([2, 3], [1, 2, 3, 4, 5, 6]), [21, -2, -6, -9, 0, 0])
        self.assertEqual(sums_of([3, 2], [1, 2, 3, 4, 5, 6]), [21, -3, -4, 0, -12, 0])

    def test_each_result_alone_shows_the_contrasts_at_its_trial(self):
        for levels in ([3], [2, 3], [3, 2], [4, 2, 3]):
            trials = full(levels)
            for place, trial in enumerate(trials):
                results = [int(k == place) for k in range(len(trials))]
                told_sums = [
                    prod(value(steps, c, step) for steps, c, step in zip(levels, chosen, trial)) for chosen in trials
                ]
                self.assertEqual(sums_of(levels, results), told_sums)

    def test_many_results(self):
        random = Random(190)
        for levels in SOME_LEVELS:
            for results in lists_for(random, levels):
                self.assert_sums(list(levels), results)


class ResultsOf(unittest.TestCase):
    def assert_results(self, levels, sums):
        answer = results_of(levels, sums)
        self.assertIsInstance(answer, list)
        self.assertEqual(len(answer), len(sums))
        for number in answer:
            self.assertTrue(is_fraction(number), number)
        self.assertEqual(plain_sums(levels, [exact(number) for number in answer]), sums)

    def test_one_thing(self):
        self.assertEqual(results_of([2], [8, 2]), [(5, 1), (3, 1)])
        self.assertEqual(results_of([2], [1, 0]), [(1, 2), (1, 2)])
        self.assertEqual(results_of([2], [0, 3]), [(3, 2), (-3, 2)])
        self.assertEqual(results_of([3], [7, -1, -5]), [(1, 1), (2, 1), (4, 1)])
        self.assertEqual(results_of([3], [0, 0, 1]), [(1, 6), (1, 6), (-1, 3)])
        self.assertEqual(results_of([3], [0, 0, 0]), [(0, 1)] * 3)

    def test_several_things(self):
        self.assertEqual(results_of([2, 2], [11, -3, -5, 1]), [(1, 1), (2, 1), (3, 1), (5, 1)])
        self.assertEqual(results_of([2, 2], [0, 1, 0, 0]), [(1, 4), (-1, 4), (1, 4), (-1, 4)])
        self.assertEqual(results_of([2, 2], [0, 0, 1, 0]), [(1, 4), (1, 4), (-1, 4), (-1, 4)])
        self.assertEqual(
            results_of([2, 3], [0, 0, 1, 0, 0, 0]), [(1, 12), (1, 12), (-1, 6), (1, 12), (1, 12), (-1, 6)]
        )

    def test_any_whole_numbers_are_sums(self):
        random = Random(191)
        for levels in SOME_LEVELS:
            for sums in lists_for(random, levels):
                self.assert_results(list(levels), sums)

    def test_sums_that_are_no_sums_of_whole_results(self):
        for levels in SOME_LEVELS:
            count = prod(levels)
            self.assertEqual(results_of(levels, [1] + [0] * (count - 1)), [(1, count)] * count)

    def test_there_and_back(self):
        random = Random(192)
        for levels in SOME_LEVELS:
            for results in lists_for(random, levels):
                self.assertEqual(results_of(levels, sums_of(levels, results)), [(number, 1) for number in results])

    def test_back_and_there(self):
        random = Random(193)
        for levels in SOME_LEVELS:
            # As many times the product of all steps and contrasts, each sum comes of whole results.
            whole = prod(prod(range(1, steps + 1)) ** 2 for steps in levels)
            for sums in lists_for(random, levels):
                taken = [whole * number for number in sums]
                results = results_of(levels, taken)
                self.assertEqual([bottom for top, bottom in results], [1] * len(sums))
                self.assertEqual(sums_of(levels, [top for top, bottom in results]), taken)

    def test_against_each_contrast_over_its_square(self):
        levels = [3, 4]
        trials = full(levels)
        sums = list(range(-5, 7))
        results = []
        for trial in trials:
            number = Fraction(0)
            for chosen, total in zip(trials, sums):
                values = [value(steps, c, step) for steps, c, step in zip(levels, chosen, trial)]
                squared = [sum(value(steps, c, k) ** 2 for k in range(steps)) for steps, c in zip(levels, chosen)]
                number += Fraction(total * prod(values), prod(squared))
            results.append(told(number))
        self.assertEqual(results_of(levels, sums), results)


class Interface(unittest.TestCase):
    def test_arguments(self):
        self.assertEqual(list(signature(sums_of).parameters), ["levels", "results"])
        self.assertEqual(list(signature(results_of).parameters), ["levels", "sums"])


if __name__ == "__main__":
    unittest.main()
