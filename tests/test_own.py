"""Point [2]: nothing handed in is changed, and what is given is the asker's own."""

import unittest
from copy import deepcopy

from helper import many_tables
from trialfield.arrays import doubled, is_right, mirrored, of_prime, plan_of, spun
from trialfield.best import best, worth
from trialfield.desk import Desk
from trialfield.errors import NoEffect, NoText
from trialfield.fits import fit, squares
from trialfield.latin import is_square, plan_of_squares, prime_squares, product, right_angles
from trialfield.models import columns_of, table_of
from trialfield.plans import all_trials, even_to, least_trials
from trialfield.quick import results_of, sums_of
from trialfield.sorts import other_side, pairs_told, turned
from trialfield.tables import determinant, rank, reduced, solved
from trialfield.telling import spread, telling
from trialfield.texts import read_model, read_plan, show_fractions, show_model, show_plan
from trialfield.words import block_of, comes_to, cut, hides, least_word, lost, span


def lists_within(value):
    """All lists that a value is or holds."""
    found = [value] if isinstance(value, list) else []
    if isinstance(value, (list, tuple)):
        for part in value:
            found += lists_within(part)
    return found


def spoil(value):
    for part in lists_within(value):
        part.append("spoilt")
        part[0] = "spoilt"


def own_tables():
    """Among them tables that are reduced already, where an answer could be the very table."""
    small = [table for table in many_tables() if len(table) < 6]
    return small + [reduced(table) for table in small]


def own_columns(table):
    """Columns of both answers, where there are both."""
    return [
        [(0, 1)] * len(table),
        [row[0] for row in table],
        [(k + 1, 3) for k in range(len(table))],
        [(k * k, 1) for k in range(len(table))],
    ]


def asked_of_tables():
    asked = []
    for table in own_tables():
        asked += [(reduced, (table,)), (rank, (table,))]
        asked += [(solved, (table, column)) for column in own_columns(table)]
        if len(table) == len(table[0]):
            asked.append((determinant, (table,)))
    return asked


def asked_of_plans():
    whole = all_trials([2, 3, 2])
    plans = ([(1, 2, 0)], whole, whole[1:], [(0, 0, 1), (1, 1, 0)] * 3)
    asked = [(all_trials, (levels,)) for levels in ([2], [3, 2], [2, 5, 3])]
    asked += [(even_to, (plan, [2, 3, 2], t)) for plan in plans for t in (1, 2, 3)]
    return asked + [(least_trials, ([2, 3, 2], u)) for u in range(4)]


def asked_of_words():
    asked = [(comes_to, (3, (1, 2, 0), (2, 2, 1)))]
    for words in ([], [(0, 0, 0)], [(1, 2, 0)], [(1, 2, 0), (2, 1, 0), (0, 1, 1)]):
        asked += [(span, (3, 3, words)), (least_word, (3, 3, words)), (hides, (3, words, (0, 0, 1)))]
        asked += [(cut, (3, 3, [(word, rest) for word in words])) for rest in (0, 1)]
        asked.append((block_of, (3, words, (2, 1, 1))))
        asked += [(lost, (3, 3, words, block_words)) for block_words in ([], [(1, 2, 0)], [(1, 1, 1), (0, 0, 1)])]
    return asked


def asked_of_models():
    asked = []
    for model in ([()], [(0,)], [(1,), (), (0, 2)], [(0, 1, 2), (0,)]):
        asked.append((columns_of, ([2, 3, 2], model)))
        asked += [(table_of, ([2, 3, 2], plan, model)) for plan in ([(1, 2, 0)], all_trials([2, 3, 2]))]
    return asked


def asked_of_telling():
    asked = []
    for rows in ([[1]], [[0]], [[1, 0], [0, 1]], [[1, 1], [1, 1]], [[1, 2, 3]], [[1], [2], [2]]):
        width = len(rows[0])
        combinations = ([0] * width, [1] * width, [1] + [0] * (width - 1), rows[0])
        asked += [(telling, (rows, combination)) for combination in combinations]
    return asked + [(spread, (weights,)) for weights in ([(1, 2)], [(0, 1), (-1, 3)])]


def asked_of_fits():
    asked = []
    for rows in ([[1]], [[0]], [[1, 0], [0, 1]], [[1, 1], [1, 1]], [[1, 2, 3]], [[1], [2], [2]]):
        asked += [(fit, (rows, results)) for results in ([0] * len(rows), list(range(1, len(rows) + 1)))]
    for model in ([()], [(0,)], [(1,), (), (0, 1)]):
        asked += [(squares, ([2, 3], plan, model, [7] * len(plan))) for plan in ([(1, 2)], all_trials([2, 3]))]
    return asked


def asked_of_quick():
    asked = []
    for levels in ([2], [3], [2, 3], [2, 2, 2]):
        count = len(all_trials(levels))
        for numbers in ([0] * count, list(range(count)), [1] + [0] * (count - 1)):
            asked += [(sums_of, (levels, numbers)), (results_of, (levels, numbers))]
    return asked


def asked_of_arrays():
    asked = [(of_prime, (p,)) for p in (3, 7, 11, 19)]
    for table in ([[1]], [[-1]], [[1, 1], [1, -1]], [[-1, 1], [1, 1]], of_prime(3)):
        asked += [(is_right, (table,)), (doubled, (table,))]
        if len(table) > 1:
            asked.append((plan_of, (table,)))
    asked += [(mirrored, (plan,)) for plan in ([(0,)], [(0, 1), (1, 1)], all_trials([2, 2]))]
    return asked + [(spun, (3, generators)) for generators in ([[0]], [[1]], [[1, 0], [0, 1]], [[1, 2], [2, 1], [0, 1]])]


def asked_of_sorts():
    asked = []
    for v, blocks in ((2, [(0,)]), (3, [(0, 1), (1, 2), (0, 2)]), (4, [(0, 1), (2, 3), (0, 1)]), (7, [(0, 1, 3)])):
        asked += [(pairs_told, (v, blocks)), (turned, (v, blocks)), (other_side, (v, blocks))]
    return asked + [(pairs_told, (1, [(0,)])), (turned, (1, [(0,)]))]


def asked_of_latin():
    asked = [(prime_squares, (p,)) for p in (2, 3, 5, 7)]
    squares_of = {1: [[[0]], [[0]]], 2: prime_squares(2), 3: prime_squares(3), 5: prime_squares(5)}
    for n, some in squares_of.items():
        asked += [(is_square, (some[0],)), (right_angles, (some[0], some[-1])), (right_angles, (some[0], some[0]))]
        asked += [(plan_of_squares, (n, some[:count])) for count in range(len(some) + 1)]
        asked += [(product, (some[0], other[-1])) for other in squares_of.values()]
        # A square that is handed in more than once.
        asked += [(product, (some[0], some[0])), (plan_of_squares, (n, [some[0], some[0]]))]
    return asked + [(is_square, (rows,)) for rows in ([[1]], [[]], [[0, 1], [0, 1]], [[0, 1], [1]], [[0, 1]])]


def asked_of_best():
    asked = []
    trials = all_trials([2, 3])
    for model in ([()], [(0,)], [(1,), (), (0,)]):
        asked += [(worth, ([2, 3], plan, model)) for plan in (trials, trials[:1], trials * 2)]
        # With all of the trials chosen the answer could be the very list.
        asked += [(best, ([2, 3], trials, model, many)) for many in range(1, 7)]
    return asked


def asked_of_texts():
    asked = [(read_plan, (text,)) for text in ("0", "0 1; 1 2", "1; 1; 1")]
    asked += [(read_model, (text,)) for text in ("mean", "0", "mean, 0, 0 1")]
    asked += [(show_plan, (plan,)) for plan in ([(0,)], [(0, 1), (4, 4)])]
    asked += [(show_model, (model,)) for model in ([()], [(0, 1), (), (2,)])]
    return asked + [(show_fractions, (numbers,)) for numbers in ([(0, 1)], [(1, 2), (-3, 1)])]


def all_asked():
    asked = asked_of_tables() + asked_of_plans() + asked_of_words() + asked_of_models() + asked_of_telling()
    asked += asked_of_fits() + asked_of_quick() + asked_of_arrays() + asked_of_sorts() + asked_of_latin()
    return asked + asked_of_best() + asked_of_texts()


class Own(unittest.TestCase):
    def test_what_is_handed_in_stays_the_same(self):
        for function, handed in all_asked():
            before = deepcopy(handed)
            function(*handed)
            self.assertEqual(handed, before)

    def test_what_is_handed_in_to_a_refusal_stays_the_same(self):
        words = [(1, 1, 0), (0, 1, 1)]
        with self.assertRaises(NoEffect):
            hides(2, words, (1, 0, 1))
        self.assertEqual(words, [(1, 1, 0), (0, 1, 1)])
        lists = [["0"], [(0,)], []]
        for handed in lists:
            for read in (read_plan, read_model):
                with self.assertRaises(NoText):
                    read(handed)
        self.assertEqual(lists, [["0"], [(0,)], []])

    def test_no_list_given_was_handed_in_or_is_given_twice(self):
        for function, handed in all_asked():
            given = function(*handed)
            named = [id(part) for part in lists_within(given)]
            self.assertEqual(len(named), len(set(named)))
            self.assertFalse(set(named) & {id(part) for part in lists_within(handed)})

    def test_a_change_of_what_was_given_changes_nothing_else(self):
        for function, handed in all_asked():
            before = deepcopy(handed)
            first = function(*handed)
            kept = deepcopy(first)
            second = function(*handed)
            spoil(first)
            self.assertEqual(second, kept)
            self.assertEqual(function(*handed), kept)
            self.assertEqual(handed, before)

    def test_a_change_of_what_was_handed_in_changes_no_answer(self):
        for function, handed in all_asked():
            # A list that is handed in twice would be spoilt twice: each is copied by itself.
            copied = tuple(deepcopy(part) for part in handed)
            given = function(*copied)
            kept = deepcopy(given)
            spoil(copied)
            self.assertEqual(given, kept)


class OwnOfDesks(unittest.TestCase):
    ROWS = ["things 2 3", "full", "model mean, 0, 1", "results 1 2 3 4 5 9", "even 2", "told 1", "squares"]
    ANSWERS = ["ok"] * 4 + ["yes", "yes", "mean 96, 0 24, 1 13, left 3"]

    def test_the_rows_stay_the_same(self):
        rows = list(self.ROWS)
        desk = Desk()
        self.assertEqual([desk.say(row) for row in rows], self.ANSWERS)
        self.assertEqual(rows, self.ROWS)

    def test_what_others_were_given_is_nothing_that_a_desk_keeps(self):
        desk = Desk()
        for row in self.ROWS[:4]:
            desk.say(row)
        levels, plan, model = [2, 3], all_trials([2, 3]), read_model("mean, 0, 1")
        given = [columns_of(levels, model), table_of(levels, plan, model), squares(levels, plan, model, [7] * 6)]
        given += [levels, plan, model, read_plan("0 0; 0 1")]
        for value in given:
            spoil(value)
        self.assertEqual([desk.say(row) for row in self.ROWS[4:]], self.ANSWERS[4:])
        self.assertEqual(read_model("mean, 0, 1"), [(), (0,), (1,)])

    def test_a_desk_changes_no_other_answer(self):
        before = [function(*handed) for function, handed in asked_of_texts() + asked_of_plans()]
        desk = Desk()
        self.assertEqual([desk.say(row) for row in self.ROWS], self.ANSWERS)
        self.assertEqual([function(*handed) for function, handed in asked_of_texts() + asked_of_plans()], before)

    def test_the_same_rows_are_answered_the_same(self):
        for turn in range(3):
            desk = Desk()
            for again in range(3):
                self.assertEqual([desk.say(row) for row in self.ROWS], self.ANSWERS)


if __name__ == "__main__":
    unittest.main()
