"""Point [3]: the promise over the whole program, each sentence of it through several modules."""

from itertools import combinations, permutations, product as all_of
from math import comb
from random import Random
from unittest import TestCase, main

from helper import FractionCase, any_plan, dot, exact, laid_over, plain_rank, plainly_even_to, small
from trialfield.arrays import doubled, is_right, mirrored, of_prime, plan_of, spun
from trialfield.best import best, worth
from trialfield.desk import Desk
from trialfield.fits import fit, squares
from trialfield.fracs import minus, plus, times
from trialfield.latin import is_square, plan_of_squares, prime_squares, product, right_angles
from trialfield.models import columns_of, table_of
from trialfield.plans import all_trials, even_to, least_trials
from trialfield.quick import results_of, sums_of
from trialfield.sorts import other_side, pairs_told, turned
from trialfield.tables import determinant, rank, solved
from trialfield.telling import spread, telling
from trialfield.texts import read_model, read_plan, show_fractions, show_model, show_plan
from trialfield.words import block_of, comes_to, cut, hides, least_word, lost, span

MEAN_AND_THINGS = [(), (0,), (1,), (2,)]
WITH_PAIRS = MEAN_AND_THINGS + [(0, 1), (0, 2), (1, 2)]


def many_plans():
    """Levels and plans: full, cut, spun, of arrays and of squares, chosen as the best, read, and any."""
    random = Random(3)
    plans = [(levels, all_trials(levels)) for levels in ([2, 2, 2], [3, 2, 2], [2, 3, 4])]
    plans += [([2] * 3, cut(2, 3, [((1, 1, 1), rest)])) for rest in (0, 1)]
    plans += [([2] * 4, cut(2, 4, [((1, 1, 0, 1), 1)])), ([3] * 3, cut(3, 3, [((1, 1, 2), 2)]))]
    plans += [([2] * 3, spun(2, [[1, 0], [0, 1], [1, 1]])), ([3] * 3, spun(3, [[1, 0], [0, 1], [1, 2]]))]
    plans += [([2] * 3, plan_of(of_prime(3))), ([2] * 7, plan_of(of_prime(7)))]
    plans.append(([2] * 3, mirrored(plan_of(of_prime(3)))))
    plans += [([3] * 3, plan_of_squares(3, prime_squares(3)[:1])), ([3] * 4, plan_of_squares(3, prime_squares(3)))]
    plans += [([2] * 3, best([2] * 3, all_trials([2] * 3), MEAN_AND_THINGS, many)[0]) for many in (2, 4, 5)]
    plans.append(([3, 2, 2], read_plan("0 0 0; 2 1 1; 2 1 0; 0 0 0; 1 1 1")))
    plans += [(levels, any_plan(random, levels, count)) for levels in ([2] * 3, [3, 2, 3]) for count in (1, 3, 6, 9)]
    return plans


def many_cases():
    """With models of at most twelve columns, in some of which effects hide behind others."""
    models = [[()], [(1,)], MEAN_AND_THINGS, WITH_PAIRS, [(0, 1), (2,), ()], [(1, 2), (0,)], [(0, 1, 2), (1,), ()]]
    cases = [(levels, plan, model) for levels, plan in many_plans() for model in models]
    return [(levels, plan, model) for levels, plan, model in cases if len(columns_of(levels, model)) <= 12]


def single(count, place):
    """The combination that has 1 at the place and 0 else."""
    return [int(k == place) for k in range(count)]


def as_table(rows):
    return [[(number, 1) for number in row] for row in rows]


class Telling(FractionCase):
    """Either weights are told, of the least spread, or two lists of worths that hide the combination."""

    def assert_told(self, rows, combination, weights, random):
        self.assert_fractions(weights, len(rows))
        for turn in range(2):
            worths = [small(random) for column in combination]
            trials = [dot(row, worths) for row in rows]
            self.assertEqual(dot(trials, [exact(weight) for weight in weights]), dot(combination, worths))
        # Weights of the least spread are a sum of multiples of the columns, and there is one such alone.
        columns = laid_over(rows)
        self.assertEqual(plain_rank(columns + [[exact(weight) for weight in weights]]), plain_rank(columns))

    def assert_hidden(self, rows, combination, one, other):
        for worths in (one, other):
            self.assert_fractions(worths, len(combination))
        apart = [exact(minus(a, b)) for a, b in zip(one, other)]
        self.assertEqual([dot(row, apart) for row in rows], [0] * len(rows))
        self.assertNotEqual(dot(combination, apart), 0)

    def test_every_combination_is_told_or_hidden(self):
        random = Random(30)
        seen = []
        for levels, plan, model in many_cases():
            rows = table_of(levels, plan, model)
            count = len(rows[0])
            asked = [single(count, place) for place in range(count)]
            asked += [[small(random) for column in range(count)] for turn in range(2)]
            asked += [[0] * count, [a + 2 * b for a, b in zip(rows[0], rows[-1])]]
            for combination in asked:
                answer = telling(rows, combination)
                seen.append(answer[0])
                if plain_rank(rows + [combination]) == plain_rank(rows):
                    self.assertEqual((len(answer), answer[0]), (2, "told"))
                    self.assert_told(rows, combination, answer[1], random)
                else:
                    self.assertEqual((len(answer), answer[0]), (3, "hidden"))
                    self.assert_hidden(rows, combination, *answer[1:])
        self.assertGreater(seen.count("told"), 300)
        self.assertGreater(seen.count("hidden"), 300)

    def test_no_other_weights_that_give_it_have_less_spread(self):
        random = Random(31)
        moved = 0
        for levels, plan, model in many_cases():
            rows = table_of(levels, plan, model)
            combination = [sum(column) for column in laid_over(rows)]
            weights = telling(rows, combination)[1]
            # What is left of any results stands at right angles to the columns: put to weights, these give the same.
            results = [small(random) for trial in plan]
            others = [plus(weight, number) for weight, number in zip(weights, fit(rows, results)[2])]
            for column, number in zip(laid_over(rows), combination):
                self.assertEqual(dot(column, [exact(weight) for weight in others]), number)
            if others != weights:
                self.assertGreater(exact(spread(others)), exact(spread(weights)))
                moved += 1
        self.assertGreater(moved, 50)

    def test_what_is_told_is_what_the_table_solves(self):
        for levels, plan, model in many_cases():
            rows = table_of(levels, plan, model)
            table = as_table(laid_over(rows))
            names = []
            for place in range(len(table)):
                answer = telling(rows, single(len(table), place))
                names.append(answer[0])
                found = solved(table, [(number, 1) for number in single(len(table), place)])
                self.assertEqual(found[0], "found" if answer[0] == "told" else "never")
                if answer[0] == "told":
                    self.assertLessEqual(exact(spread(answer[1])), exact(spread(found[1])))
            # All worths are told just where the columns are free of one another.
            self.assertEqual(rank(table) == len(table), "hidden" not in names)
            self.assertEqual(worth(levels, plan, model) > 0, "hidden" not in names)


class Fits(FractionCase):
    """What is left stands at right angles to all columns; squares come to the whole, in some cases in every order."""

    def test_what_is_left_stands_at_right_angles(self):
        random = Random(32)
        for levels, plan, model in many_cases():
            rows = table_of(levels, plan, model)
            results = [small(random) for trial in plan]
            worths, fitted, left = fit(rows, results)
            self.assert_fractions(worths, len(rows[0]))
            exact_left = [exact(number) for number in left]
            self.assertEqual([dot(column, exact_left) for column in laid_over(rows)], [0] * len(rows[0]))
            self.assertEqual([exact(plus(a, b)) for a, b in zip(fitted, left)], results)
            for row, number in zip(rows, fitted):
                self.assertEqual(dot(row, [exact(worth_told) for worth_told in worths]), exact(number))

    def test_a_fit_tells_each_worth_that_is_told_as_its_weights_do(self):
        random = Random(33)
        for levels, plan, model in many_cases():
            rows = table_of(levels, plan, model)
            results = [small(random) for trial in plan]
            worths = fit(rows, results)[0]
            for place in range(len(worths)):
                answer = telling(rows, single(len(worths), place))
                if answer[0] == "told":
                    self.assertEqual(dot(results, [exact(weight) for weight in answer[1]]), exact(worths[place]))

    def at_right_angles(self, levels, plan, model):
        named = list(zip(columns_of(levels, model), laid_over(table_of(levels, plan, model))))
        return all(dot(a, b) == 0 for (one, a), (other, b) in combinations(named, 2) if one[0] != other[0])

    def test_squares_come_to_the_whole_and_are_the_same_in_every_order_where_columns_stand_so(self):
        random = Random(34)
        seen = []
        for levels, plan, model in many_cases():
            results = [small(random) for trial in plan]
            orders = [list(order) for order in permutations(model)]
            first = dict(squares(levels, plan, model, results))
            alike = True
            for order in random.sample(orders, min(4, len(orders))):
                parts = squares(levels, plan, order, results)
                self.assertEqual([name for name, square in parts], order + ["left"])
                self.assertEqual(sum(exact(square) for name, square in parts), sum(number ** 2 for number in results))
                self.assertTrue(all(square[0] >= 0 for name, square in parts))
                alike = alike and dict(parts) == first
            right = self.at_right_angles(levels, plan, model)
            self.assertTrue(alike or not right)
            seen.append((right, alike))
        self.assertGreater(seen.count((True, True)), 30)
        self.assertGreater(seen.count((False, False)), 10)

    def test_all_orders_on_plans_that_are_even_to_two_columns(self):
        random = Random(35)
        for levels, plan in many_plans():
            if len(levels) <= 4 and even_to(plan, levels, 2) == ("even",):
                results = [small(random) for trial in plan]
                model = MEAN_AND_THINGS + [(thing,) for thing in range(3, len(levels))]
                answers = [dict(squares(levels, plan, list(order), results)) for order in permutations(model)]
                self.assertTrue(all(answer == answers[0] for answer in answers))


def word_cases():
    """p, n and words with p to the power of n at most a hundred and fifty."""
    random = Random(36)
    cases = [(2, 3, []), (2, 3, [(1, 1, 1)]), (2, 4, [(1, 1, 1, 1)]), (2, 5, [(1, 1, 1, 0, 0), (0, 0, 1, 1, 1)])]
    cases += [(3, 3, [(1, 1, 1)]), (3, 4, [(1, 1, 1, 0), (0, 1, 2, 1)]), (5, 3, [(1, 1, 2)]), (7, 2, [(1, 3)])]
    for p, n in ((2, 4), (2, 5), (3, 3), (5, 2)):
        for count in (1, 2):
            cases.append((p, n, [tuple(random.randrange(p) for place in range(n)) for word in range(count)]))
    return cases


def some_cut(p, n, words):
    """A cut by rules with these words that a trial, and so all rules together, can keep."""
    kept = all_trials([p] * n)[-2]
    return cut(p, n, [(word, comes_to(p, word, kept)) for word in words])


def places_in(word):
    return tuple(place for place, rest in enumerate(word) if rest != 0)


class Words(TestCase):
    """On a plan cut by words effects hide just where the words say so, and it is even just below the least word."""

    def test_two_effects_part_the_trials_alike_just_where_one_hides_behind_the_other(self):
        seen = []
        for p, n, words in word_cases():
            plan = some_cut(p, n, words)
            within = span(p, n, words)
            effects = [word for word in all_trials([p] * n) if word not in within]
            for one in effects[:8]:
                behind = hides(p, words, one)
                for other in effects:
                    pairs = [(comes_to(p, one, trial), comes_to(p, other, trial)) for trial in plan]
                    if other in behind:
                        self.assertEqual(len(set(pairs)), len({a for a, b in pairs}))
                        self.assertEqual(len(set(pairs)), len({b for a, b in pairs}))
                    else:
                        self.assertEqual({pairs.count(pair) for pair in all_trials([p, p])}, {len(plan) // p ** 2})
                    seen.append(other in behind)
        self.assertGreater(seen.count(True), 100)
        self.assertGreater(seen.count(False), 100)

    def test_of_two_steps_an_effect_is_told_beside_another_just_where_it_does_not_hide_behind_it(self):
        for p, n, words in word_cases():
            if p == 2:
                plan = some_cut(p, n, words)
                within = span(p, n, words)
                effects = [word for word in all_trials([p] * n) if word not in within]
                for one, other in permutations(effects[:10], 2):
                    rows = table_of([p] * n, plan, [places_in(one), places_in(other)])
                    hidden = other in hides(p, words, one)
                    self.assertEqual(telling(rows, [1, 0])[0], "hidden" if hidden else "told")
                # What is in the span can't be told from the mean; every effect can.
                for word in within[1:]:
                    self.assertEqual(telling(table_of([2] * n, plan, [(), places_in(word)]), [0, 1])[0], "hidden")
                for word in effects:
                    self.assertEqual(telling(table_of([2] * n, plan, [(), places_in(word)]), [0, 1])[0], "told")

    def test_the_plan_is_even_to_t_columns_just_as_long_as_no_word_has_so_few_places(self):
        for p, n, words in word_cases():
            plan = some_cut(p, n, words)
            least = least_word(p, n, words)
            self.assertEqual(least == ("none",), len(span(p, n, words)) == 1)
            for t in range(1, n + 1):
                even = least == ("none",) or len(places_in(least[1])) > t
                self.assertEqual(even, all(len(places_in(word)) > t for word in span(p, n, words)[1:]))
                self.assertEqual(even_to(plan, [p] * n, t)[0], "even" if even else "uneven")
                self.assertEqual(plainly_even_to(plan, [p] * n, t), even)

    def test_effects_lost_in_blocks_are_the_same_within_each_block(self):
        for p, n, words in word_cases():
            plan = some_cut(p, n, words)
            block_words = [(1,) * n, (0,) * (n - 1) + (1,)]
            gone = lost(p, n, words, block_words)
            for word in all_trials([p] * n):
                met = {(block_of(p, block_words, trial), comes_to(p, word, trial)) for trial in plan}
                steady = len(met) == len({block for block, rest in met}) and len({rest for block, rest in met}) > 1
                self.assertEqual(word in gone, steady)


class QuickSums(FractionCase):
    """Quick sums are the plain ones and lead back."""

    LEVELS = ([2], [5], [2, 2, 2], [2, 3, 2], [4, 3], [3, 5], [2, 7])

    def test_the_plain_ones(self):
        random = Random(37)
        for levels in self.LEVELS:
            plan = all_trials(levels)
            results = [small(random) for trial in plan]
            sums = sums_of(levels, results)
            self.assertEqual(len(sums), len(plan))
            for numbers, total in zip(plan, sums):
                effect = places_in(numbers)
                column = columns_of(levels, [effect]).index((effect, tuple(numbers[thing] for thing in effect)))
                rows = table_of(levels, plan, [effect])
                self.assertEqual(total, sum(row[column] * result for row, result in zip(rows, results)))

    def test_there_and_back(self):
        random = Random(38)
        for levels in self.LEVELS:
            results = [small(random) for trial in all_trials(levels)]
            self.assertEqual(results_of(levels, sums_of(levels, results)), [(result, 1) for result in results])

    def test_any_sums_are_those_of_the_results_they_lead_to(self):
        random = Random(39)
        for levels in self.LEVELS:
            plan = all_trials(levels)
            sums = [small(random) for trial in plan]
            results = results_of(levels, sums)
            self.assert_fractions(results, len(plan))
            # Taken times their common bottom these are whole, and so are their sums.
            bottom = 1
            for number in results:
                bottom = bottom * number[1]
            whole = [times(number, (bottom, 1))[0] for number in results]
            self.assertEqual(sums_of(levels, whole), [bottom * number for number in sums])

    def test_the_fit_of_a_full_plan_comes_of_its_quick_sums(self):
        random = Random(40)
        for levels in ([2, 2, 2], [2, 3], [3, 3], [5], [4, 2]):
            plan = all_trials(levels)
            model = [effect for count in range(len(levels) + 1) for effect in combinations(range(len(levels)), count)]
            rows = table_of(levels, plan, model)
            results = [small(random) for trial in plan]
            worths, fitted, left = fit(rows, results)
            self.assertEqual(left, [(0, 1)] * len(plan))
            sums = dict(zip(plan, sums_of(levels, results)))
            for (effect, numbers), column, worth_told in zip(columns_of(levels, model), laid_over(rows), worths):
                place = [0] * len(levels)
                for thing, number in zip(effect, numbers):
                    place[thing] = number
                self.assertEqual(exact(worth_told) * dot(column, column), sums[tuple(place)])


class EvenPlans(TestCase):
    """A plan that is even has at least the told number of trials."""

    def test_no_even_plan_has_fewer(self):
        plans = many_plans() + [([2] * 7, cut(2, 7, [((1,) * 7, 0)])), ([2] * 19, mirrored(plan_of(of_prime(19))))]
        plans += [([2] * 11, plan_of(of_prime(11))), ([2] * 15, plan_of(doubled(of_prime(7))))]
        plans += [([5] * 6, plan_of_squares(5, prime_squares(5))), ([7] * 8, plan_of_squares(7, prime_squares(7)))]
        reached = 0
        for levels, plan in plans:
            for u in range(len(levels) // 2 + 1):
                if u == 0 or even_to(plan, levels, 2 * u) == ("even",):
                    self.assertGreaterEqual(len(plan), least_trials(levels, u))
                    reached += u > 0 and len(plan) == least_trials(levels, u)
                else:
                    break
        # Arrays of one thing less than trials, and all squares of a prime, can't do with less.
        self.assertGreater(reached, 8)

    def test_with_fewer_trials_no_plan_is_even(self):
        for levels in ([2, 2], [2, 3], [2, 2, 2]):
            for count in range(1, least_trials(levels, 1)):
                for chosen in all_of(all_trials(levels), repeat=count):
                    self.assertEqual(even_to(list(chosen), levels, 2)[0], "uneven")

    def test_columns_of_an_even_plan_stand_at_right_angles(self):
        for levels, plan in many_plans():
            if even_to(plan, levels, 2) == ("even",):
                model = [()] + [(thing,) for thing in range(len(levels))]
                rows = table_of(levels, plan, model)
                for one, other in combinations(laid_over(rows), 2):
                    self.assertEqual(dot(one, other), 0)
                self.assertEqual(rank(as_table(rows)), least_trials(levels, 1))


class ArraysSquaresBlocks(TestCase):
    """The told arrays, squares and blocks are what they should be."""

    def test_arrays(self):
        for p in (3, 7, 11, 19):
            for table in (of_prime(p), doubled(of_prime(p))):
                self.assertIs(is_right(table), True)
                things = len(table) - 1
                self.assertTrue(plainly_even_to(plan_of(table), [2] * things, 2))
                if things <= 20:
                    self.assertEqual(even_to(plan_of(table), [2] * things, 2), ("even",))
                if things <= 11:
                    self.assertEqual(even_to(mirrored(plan_of(table)), [2] * things, 3), ("even",))
                    # Its determinant is the greatest that numbers 1 and -1 let.
                    self.assertEqual(abs(determinant(as_table(table))[0]), (things + 1) ** ((things + 1) // 2))

    def test_spun_plans_are_cuts(self):
        # The words that come to 0 with each list of rests are those by which the spun plan is cut.
        cases = [(2, [[1, 0], [0, 1], [1, 1]]), (2, [[1, 0, 1], [1, 1, 0], [0, 0, 1]])]
        for p, generators in cases + [(3, [[1, 0], [0, 1], [1, 2]]), (5, [[1], [2]])]:
            n = len(generators)
            plan = spun(p, generators)
            words = [word for word in all_trials([p] * n) if all(comes_to(p, word, trial) == 0 for trial in plan)]
            self.assertEqual(span(p, n, words), words)
            self.assertEqual(cut(p, n, [(word, 0) for word in words]), sorted(plan))

    def test_squares(self):
        for p in (2, 3, 5, 7):
            told = prime_squares(p)
            self.assertTrue(all(is_square(square) for square in told))
            self.assertTrue(all(right_angles(one, other) == ("right",) for one, other in combinations(told, 2)))
            self.assertEqual(even_to(plan_of_squares(p, told), [p] * (p + 1), 2), ("even",))
        for n, m in ((2, 3), (3, 2), (3, 3), (1, 5)):
            made = product(prime_squares(n)[0] if n > 1 else [[0]], prime_squares(m)[-1])
            self.assertIs(is_square(made), True)
            self.assertEqual(even_to(plan_of_squares(n * m, [made]), [n * m] * 3, 2), ("even",))

    def test_the_plan_is_even_to_two_columns_just_where_all_squares_stand_at_right_angles(self):
        random = Random(41)
        seen = []
        for p in (3, 5):
            some = prime_squares(p) + [[row[::-1] for row in square] for square in prime_squares(p)]
            for count in (2, 3):
                for chosen in (random.sample(some, count) for turn in range(25)):
                    right = all(right_angles(one, other) == ("right",) for one, other in combinations(chosen, 2))
                    told = even_to(plan_of_squares(p, chosen), [p] * (2 + count), 2)
                    self.assertEqual(told[0], "even" if right else "uneven")
                    seen.append(right)
        self.assertGreater(seen.count(True), 5)
        self.assertGreater(seen.count(False), 5)

    def test_blocks(self):
        bases = ((3, [(0, 1)]), (5, [(0, 1), (0, 2)]), (7, [(0, 1, 3)]), (11, [(1, 3, 4, 5, 9)]), (13, [(0, 1, 3, 9)]))
        for v, base in bases:
            for blocks in (turned(v, base), other_side(v, turned(v, base))):
                name, r, l = pairs_told(v, blocks)
                self.assertEqual(name, "even")
                standing = [[int(sort in block) for block in blocks] for sort in range(v)]
                for one, other in all_of(range(v), repeat=2):
                    self.assertEqual(dot(standing[one], standing[other]), r if one == other else l)
                # Where blocks are even the sorts' rows are free of one another: so there are as many blocks or more.
                if 2 <= len(blocks[0]) < v:
                    self.assertEqual(rank(as_table(standing)), v)
                    self.assertGreaterEqual(len(blocks), v)

    def test_the_lines_of_squares_are_even_blocks(self):
        # The places are the sorts; each row, each column and each number of a square has its places for a block.
        for p in (2, 3):
            plan = plan_of_squares(p, prime_squares(p))
            lines = [(thing, step) for thing in range(p + 1) for step in range(p)]
            blocks = [tuple(k for k, trial in enumerate(plan) if trial[thing] == step) for thing, step in lines]
            self.assertEqual(pairs_told(p * p, blocks), ("even", p + 1, 1))
            self.assertEqual(pairs_told(p * p, blocks[1:])[0], "uneven")


class TheBest(TestCase):
    """The told best plan is the best of all."""

    def test_no_choice_is_of_greater_worth(self):
        random = Random(42)
        for levels, trials in many_plans():
            unlike = list(dict.fromkeys(random.sample(trials, len(trials))))[:9]
            for model in ([()], MEAN_AND_THINGS, [(0, 1), (2,)]):
                for many in {1, 2, len(unlike) // 2 + 1, len(unlike)}:
                    if many <= len(unlike) and comb(len(unlike), many) <= 300:
                        plan, number = best(levels, unlike, model, many)
                        self.assertEqual([trial for trial in unlike if trial in plan], plan)
                        self.assertEqual(len(plan), many)
                        worths = [worth(levels, list(chosen), model) for chosen in combinations(unlike, many)]
                        self.assertEqual(number, max(worths))
                        self.assertEqual(self.by_products(levels, plan, model), (number, 1))

    def by_products(self, levels, plan, model):
        columns = laid_over(table_of(levels, plan, model))
        return determinant(as_table([[int(dot(one, other)) for other in columns] for one in columns]))

    def test_the_best_of_two_steps_is_a_cut(self):
        plan, number = best([2] * 3, all_trials([2] * 3), MEAN_AND_THINGS, 4)
        self.assertEqual(number, 4 ** 4)
        self.assertIn(plan, [cut(2, 3, [((1, 1, 1), rest)]) for rest in (0, 1)])
        self.assertEqual(even_to(plan, [2] * 3, 2), ("even",))

    def test_the_best_tells_all_worths_where_any_choice_does(self):
        for levels, model in (([2, 2], [(), (0,), (1,)]), ([2, 3], [(), (1,)]), ([3, 3], [(), (0,), (1,)])):
            count = len(columns_of(levels, model))
            for many in (count - 1, count, count + 1):
                plan, number = best(levels, all_trials(levels), model, many)
                rows = table_of(levels, plan, model)
                names = [telling(rows, single(count, place))[0] for place in range(count)]
                self.assertEqual("hidden" not in names, number > 0)
                self.assertEqual(number > 0, many >= count)


class TheDesk(TestCase):
    """A desk answers what the modules tell."""

    def test_as_the_modules_tell(self):
        random = Random(43)
        for levels, plan, model in many_cases():
            if max(levels) > 5 or len(levels) > 6:
                continue
            results = [small(random) for trial in plan]
            desk = Desk()
            rows = ["things " + " ".join(map(str, levels)), "plan " + show_plan(plan), "model " + show_model(model)]
            for row in rows + ["results " + " ".join(map(str, results))]:
                self.assertEqual(desk.say(row), "ok")
            for t in range(1, len(levels) + 1):
                self.assertEqual(desk.say("even " + str(t)) == "yes", even_to(plan, levels, t) == ("even",))
            columns, table = columns_of(levels, model), table_of(levels, plan, model)
            for effect in model:
                places = [place for place, column in enumerate(columns) if column[0] == effect]
                names = [telling(table, single(len(columns), place))[0] for place in places]
                self.assertEqual(desk.say("told " + show_model([effect])), "no" if "hidden" in names else "yes")
            names = [show_model([effect]) for effect in model] + ["left"]
            apart = squares(levels, plan, model, results)
            words = [name + " " + show_fractions([square]) for name, (effect, square) in zip(names, apart)]
            self.assertEqual(desk.say("squares"), ", ".join(words))
            self.assertEqual((read_plan(show_plan(plan)), read_model(show_model(model))), (plan, model))


if __name__ == "__main__":
    main()
