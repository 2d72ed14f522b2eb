"""Point [26]: texts that tell plans and models, read and shown, and fractions shown."""

import unittest
from fractions import Fraction
from inspect import signature
from itertools import combinations, permutations, product
from random import Random

from helper import full, is_whole, long, small, told
from trialfield.errors import NoText, TrialError
from trialfield.texts import read_model, read_plan, show_fractions, show_model, show_plan

NO_TEXTS = (None, 0, 1, -3, True, False, [], ["0"], ("0",), {}, {"0": 1}, [(0,)], [()], b"0", 0.5)


class TextCase(unittest.TestCase):
    def assert_refused(self, read, text):
        with self.assertRaises(NoText, msg=repr(text)) as caught:
            read(text)
        self.assertIs(type(caught.exception), NoText)
        self.assertIsInstance(caught.exception, TrialError)

    def assert_read_alone(self, read, texts, signs, count):
        """Of all texts of at most four of the signs, so many of these texts, and nothing else, are read."""
        found = 0
        for size in range(5):
            for text in map("".join, product(signs, repeat=size)):
                if text in texts:
                    read(text)
                    found += 1
                else:
                    self.assert_refused(read, text)
        self.assertEqual(found, count)


def some_plans():
    random = Random(26)
    plans = [[(step,)] for step in range(5)] + [full([5]), full([2, 3]), full([5, 5, 5]), [(4,) * 6], [(0,) * 6] * 150]
    for things in range(1, 7):
        for count in (1, 2, 9, 149, 150):
            plans.append([tuple(random.randrange(5) for thing in range(things)) for trial in range(count)])
    return plans


class Plans(TextCase):
    def test_examples(self):
        self.assertEqual(read_plan("0 1; 1 0; 2 2"), [(0, 1), (1, 0), (2, 2)])
        self.assertEqual(read_plan("0"), [(0,)])
        self.assertEqual(read_plan("4; 4; 0"), [(4,), (4,), (0,)])
        self.assertEqual(read_plan("0 1 2 3 4 0"), [(0, 1, 2, 3, 4, 0)])
        self.assertEqual(show_plan([(0, 1), (1, 0), (2, 2)]), "0 1; 1 0; 2 2")
        self.assertEqual(show_plan([(3,)]), "3")
        self.assertEqual(show_plan([(3,), (3,)]), "3; 3")

    def test_kinds(self):
        plan = read_plan("0 1; 2 3")
        self.assertIsInstance(plan, list)
        for trial in plan:
            self.assertIsInstance(trial, tuple)
            self.assertTrue(all(is_whole(step) for step in trial))
        self.assertIsInstance(show_plan(plan), str)

    def test_shown_and_read_back(self):
        for plan in some_plans():
            text = show_plan(plan)
            self.assertEqual(text, "; ".join(" ".join(str(step) for step in trial) for trial in plan))
            self.assertEqual(read_plan(text), plan)
            self.assertEqual(show_plan(read_plan(text)), text)

    def test_empty(self):
        self.assert_refused(read_plan, "")
        self.assert_refused(read_plan, " ")

    def test_spaces(self):
        for text in (
            " 0", "0 ", "0  1", " 0 1", "0 1 ", "0 1;  1 0", "0 1 ; 1 0", "0 1; 1 0 ", " 0 1; 1 0", "0 1; 1  0",
        ):
            self.assert_refused(read_plan, text)

    def test_separators(self):
        for text in (
            "0;1", "0 1;1 0", "0;", "0; ", "0; 1;", "0; 1; ", "; 0", ";0", "0; ; 1", "0;; 1", "0;;1", ";", "; ",
        ):
            self.assert_refused(read_plan, text)
        for text in (
            "0, 1", "0,1", "0: 1", "0 . 1", "0/1", "0|1", "0 ;1", "0\n1", "0;\n1", "0\t1", "0; 1\n", "\n0",
            "0;\t1",
        ):
            self.assert_refused(read_plan, text)

    def test_steps(self):
        for step in (
            "5", "6", "7", "9", "10", "11", "00", "01", "04", "40", "44", "-0", "-1", "+0", "+1", "1.", "0x1",
            "1e0",
        ):
            self.assert_refused(read_plan, step)
            self.assert_refused(read_plan, "0 " + step)
            self.assert_refused(read_plan, step + " 0")
            self.assert_refused(read_plan, "0; 1; " + step)
            self.assert_refused(read_plan, step + "; 0")
        for step in (
            "1_0", "0_1", "a", "O", "one", "mean", "-", "+", "'0'", "(0)", "99999999999999999999", "\u0661",
            "\u00b2",
        ):
            self.assert_refused(read_plan, step)

    def test_all_texts_of_few_signs(self):
        plans = [[trial] for trial in full([5]) + full([5, 5])] + [[(a,), (b,)] for a, b in full([5, 5])]
        self.assert_read_alone(read_plan, [show_plan(plan) for plan in plans], "0145; -,", 3 + 9 + 9)

    def test_trials_of_unlike_count(self):
        for text in ("0 1; 0", "0; 0 1", "0 1; 1 0; 1", "0; 1; 1 1; 0", "0 0 0 0 0 0; 0 0 0 0 0", "0 1; 0 1 1"):
            self.assert_refused(read_plan, text)

    def test_most_things(self):
        self.assertEqual(read_plan("1 1 1 1 1 1; 0 0 0 0 0 0"), [(1,) * 6, (0,) * 6])
        for count in (7, 8, 20):
            text = " ".join(["1"] * count)
            self.assert_refused(read_plan, text)
            self.assert_refused(read_plan, text + "; " + text)

    def test_most_trials(self):
        self.assertEqual(read_plan("; ".join(["1 2"] * 150)), [(1, 2)] * 150)
        for count in (151, 152, 300):
            self.assert_refused(read_plan, "; ".join(["1"] * count))
            self.assert_refused(read_plan, "; ".join(["1 2"] * count))

    def test_what_is_no_text(self):
        for value in NO_TEXTS:
            self.assert_refused(read_plan, value)


def all_effects():
    return [effect for count in range(7) for effect in combinations(range(6), count)]


def some_models():
    random = Random(260)
    models = [[effect] for effect in all_effects()] + [all_effects(), all_effects()[::-1]]
    return models + [random.sample(all_effects(), random.randint(1, 12)) for turn in range(100)]


class Models(TextCase):
    def test_examples(self):
        self.assertEqual(read_model("mean"), [()])
        self.assertEqual(read_model("mean, 0, 1, 0 1"), [(), (0,), (1,), (0, 1)])
        self.assertEqual(read_model("2 5, mean, 0 1 2 3 4 5"), [(2, 5), (), (0, 1, 2, 3, 4, 5)])
        self.assertEqual(show_model([()]), "mean")
        self.assertEqual(show_model([(), (0,), (1,), (0, 1)]), "mean, 0, 1, 0 1")
        self.assertEqual(show_model([(2, 5), ()]), "2 5, mean")

    def test_kinds(self):
        model = read_model("mean, 0 1")
        self.assertIsInstance(model, list)
        for effect in model:
            self.assertIsInstance(effect, tuple)
            self.assertTrue(all(is_whole(thing) for thing in effect))
        self.assertIsInstance(show_model(model), str)

    def test_shown_and_read_back(self):
        for model in some_models():
            text = show_model(model)
            self.assertEqual(text, ", ".join(" ".join(map(str, effect)) if effect else "mean" for effect in model))
            self.assertEqual(read_model(text), model)
            self.assertEqual(show_model(read_model(text)), text)

    def test_empty(self):
        self.assert_refused(read_model, "")
        self.assert_refused(read_model, " ")

    def test_spaces(self):
        for text in (" mean", "mean ", " 0", "0 ", "0  1", "mean,  0", "mean , 0", "0, 1 ", " 0, 1", "0,  1", "me an"):
            self.assert_refused(read_model, text)

    def test_separators(self):
        for text in (
            "0,1", "mean,0", "0,", "0, ", "mean, ", "mean,", "0, 1, ", ", 0", ",0", "0, , 1", "0,, 1", ",",
            ", ",
        ):
            self.assert_refused(read_model, text)
        for text in (
            "0; 1", "mean; 0", "0;1", "0 + 1", "0.1", "0/1", "0\n1", "0,\n1", "mean\n", "0\t1", "\tmean",
            "0 ,1",
        ):
            self.assert_refused(read_model, text)

    def test_numbers(self):
        for number in (
            "6", "7", "9", "10", "12", "00", "01", "05", "-0", "-1", "+1", "+0", "1_0", "a", "()", "1.",
            "\u0661",
        ):
            self.assert_refused(read_model, number)
            self.assert_refused(read_model, "0 " + number)
            self.assert_refused(read_model, "mean, " + number)
            self.assert_refused(read_model, number + ", mean")

    def test_numbers_that_do_not_rise_or_come_twice(self):
        for text in (
            "1 0", "0 0", "0 2 1", "5 5", "0 1 1", "0 0 1", "mean, 3 2", "0 1 2 3 4 5 5", "0 1 2 3 4 5 0",
            "4 0",
        ):
            self.assert_refused(read_model, text)

    def test_an_effect_twice(self):
        for text in ("mean, mean", "0, 0", "0, 1, 0", "0 1, 0 1", "mean, 0, mean", "0 1, 2, mean, 0 1"):
            self.assert_refused(read_model, text)

    def test_mean_within_numbers(self):
        for text in (
            "mean 0", "0 mean", "0 mean 1", "mean mean", "0, 1 mean", "Mean", "MEAN", "meant", "mea", "mean0",
            "left",
        ):
            self.assert_refused(read_model, text)

    def test_all_texts_of_few_signs(self):
        models = [[effect] for effect in all_effects()] + [[(a,), (b,)] for a, b in permutations(range(6), 2)]
        self.assert_read_alone(read_model, [show_model(model) for model in models], "0156, -;", 3 + 3 + 6)

    def test_what_is_no_text(self):
        for value in NO_TEXTS:
            self.assert_refused(read_model, value)


class ShowFractions(unittest.TestCase):
    def test_examples(self):
        self.assertEqual(show_fractions([(1, 2)]), "1/2")
        self.assertEqual(show_fractions([(-1, 2)]), "-1/2")
        self.assertEqual(show_fractions([(0, 1)]), "0")
        self.assertEqual(show_fractions([(12, 1)]), "12")
        self.assertEqual(show_fractions([(-7, 1)]), "-7")
        self.assertEqual(show_fractions([(1, 1), (-22, 7), (0, 1), (3, 10)]), "1 -22/7 0 3/10")
        self.assertEqual(show_fractions([(0, 1), (0, 1)]), "0 0")

    def test_each_by_itself(self):
        random = Random(261)
        for count in (1, 2, 3, 12, 150):
            for number in (small, long):
                tops = [number(random) for place in range(count)]
                numbers = [told(Fraction(top, random.randint(1, 4))) for top in tops]
                words = [str(top) if bottom == 1 else str(top) + "/" + str(bottom) for top, bottom in numbers]
                self.assertEqual(show_fractions(numbers), " ".join(words))

    def test_long_ones(self):
        top, bottom = 10 ** 40 - 1, 10 ** 40 - 3
        self.assertEqual(
            show_fractions([told(-top), (top, bottom)]), "-" + "9" * 40 + " " + "9" * 40 + "/" + str(bottom),
        )


class Interface(unittest.TestCase):
    def test_arguments(self):
        self.assertEqual(list(signature(read_plan).parameters), ["text"])
        self.assertEqual(list(signature(show_plan).parameters), ["plan"])
        self.assertEqual(list(signature(read_model).parameters), ["text"])
        self.assertEqual(list(signature(show_model).parameters), ["model"])
        self.assertEqual(list(signature(show_fractions).parameters), ["numbers"])


if __name__ == "__main__":
    unittest.main()
