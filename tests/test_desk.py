"""Point [27]: the desk, what it keeps and answers, what it refuses, and by which class."""

import unittest
from inspect import signature

from helper import full
from trialfield.desk import Desk
from trialfield.errors import NoFit, NoRow, NoText, NoThing, TrialError
from trialfield.fits import squares
from trialfield.texts import show_fractions, show_model, show_plan

ALL_TOLD = ("things 2 3", "plan 0 0; 0 1; 1 2; 1 0", "model mean, 0, 1", "results 1 -2 0 7")
# Rows that ask, and what a desk that was told all of the above answers.
ASKED = ("even 1", "even 2", "told mean", "told 0", "told 1", "squares")
ANSWERED = ["no", "no", "yes", "yes", "yes", "mean 9, 0 16, 1 29, left 0"]


class DeskCase(unittest.TestCase):
    def assert_refused(self, desk, rows, refusal):
        for row in rows:
            with self.assertRaises(TrialError, msg=repr(row)) as caught:
                desk.say(row)
            self.assertIs(type(caught.exception), refusal, repr(row))

    def desk_told(self, *rows):
        desk = Desk()
        for row in rows:
            self.assertEqual(desk.say(row), "ok", row)
        return desk

    def assert_answers(self, desk, rows, answers):
        given = [desk.say(row) for row in rows]
        self.assertTrue(all(isinstance(answer, str) for answer in given))
        self.assertEqual(given, answers)


class Answers(DeskCase):
    def test_things(self):
        for row in ("things 2", "things 5", "things 2 3 4 5 2 2", "things 5 5 5 5 5 5"):
            self.desk_told(row)

    def test_plan_and_full(self):
        desk = self.desk_told("things 2 3", "full")
        self.assert_answers(desk, ["even 1", "even 2"], ["yes", "yes"])
        self.assertEqual(desk.say("plan 0 0"), "ok")
        self.assert_answers(desk, ["even 1", "even 2"], ["no", "no"])
        self.assertEqual(desk.say("plan 0 0; 0 1; 0 2; 1 2; 1 1; 1 0"), "ok")
        self.assert_answers(desk, ["even 1", "even 2"], ["yes", "yes"])
        self.assertEqual(desk.say("plan 0 0; 1 1; 0 2; 1 0; 0 1; 1 2"), "ok")
        self.assert_answers(desk, ["even 1", "even 2"], ["yes", "yes"])
        self.assertEqual(desk.say("plan " + show_plan([(1, 2)] * 150)), "ok")
        self.assertEqual(desk.say("even 1"), "no")

    def test_even(self):
        desk = self.desk_told("things 2 2 2", "plan 0 0 0; 0 1 1; 1 0 1; 1 1 0")
        self.assert_answers(desk, ["even 1", "even 2", "even 3"], ["yes", "yes", "no"])
        desk = self.desk_told("things 3", "plan 0; 1; 2; 2; 1; 0")
        self.assertEqual(desk.say("even 1"), "yes")

    def test_told(self):
        desk = self.desk_told("things 2 2 2", "plan 0 0 0; 0 1 1; 1 0 1; 1 1 0", "model mean, 0, 1, 2")
        asked = ["told mean", "told 0", "told 1", "told 2"]
        self.assert_answers(desk, asked, ["yes"] * 4)
        self.assertEqual(desk.say("model mean, 0, 1, 2, 0 1"), "ok")
        self.assert_answers(desk, asked + ["told 0 1"], ["yes", "yes", "yes", "no", "no"])
        self.assertEqual(desk.say("full"), "ok")
        self.assert_answers(desk, asked + ["told 0 1"], ["yes"] * 5)

    def test_told_of_an_effect_with_columns_told_and_hidden(self):
        # Of the thing's two columns the plan tells the one that parts the steps 0 and 1, and not the other.
        desk = self.desk_told("things 3 2", "plan 0 0; 1 0", "model mean, 0")
        self.assert_answers(desk, ["told mean", "told 0"], ["no", "no"])
        desk = self.desk_told("things 3 2", "plan 0 0; 1 0; 2 0", "model mean, 0")
        self.assert_answers(desk, ["told mean", "told 0"], ["yes", "yes"])
        # The columns' order must not count either: here the second is told, and the first is not.
        desk = self.desk_told("things 3", "plan 2", "model 0")
        self.assertEqual(desk.say("told 0"), "no")

    def test_squares(self):
        desk = self.desk_told("things 2 2", "plan 0 0; 1 1; 1 0", "model mean, 0", "results 1 2 3")
        self.assertEqual(desk.say("squares"), "mean 12, 0 3/2, left 1/2")
        self.assertEqual(desk.say("model mean, 0, 1"), "ok")
        self.assertEqual(desk.say("squares"), "mean 12, 0 3/2, 1 1/2, left 0")
        self.assertEqual(desk.say("model 0 1, 1, mean, 0"), "ok")
        self.assertEqual(desk.say("squares"), "0 1 0, 1 3/2, mean 25/2, 0 0, left 0")
        desk = self.desk_told("things 2", "plan 0; 0; 1; 1", "model mean, 0", "results 1 2 2 1")
        self.assertEqual(desk.say("squares"), "mean 9, 0 0, left 1")
        desk = self.desk_told("things 2", "plan 0; 1; 1", "model mean, 0", "results 1 2 3")
        self.assertEqual(desk.say("squares"), "mean 12, 0 3/2, left 1/2")
        desk = self.desk_told("things 2", "plan 0; 1; 1", "model mean, 0", "results 1 5 5")
        self.assertEqual(desk.say("squares"), "mean 121/3, 0 32/3, left 0")

    def test_squares_in_the_form_of_the_document(self):
        # There, mean 12, 0 3/2, left 0: no whole results come to these three together, but to each of them.
        desk = self.desk_told("things 2 2", "plan 0 0; 1 0; 1 0", "model mean, 0, 1", "results 3 1 2")
        self.assertEqual(desk.say("squares"), "mean 12, 0 3/2, 1 0, left 1/2")
        desk = self.desk_told("things 3", "plan 0; 1; 2", "model mean, 0", "results 2 2 2")
        self.assertEqual(desk.say("squares"), "mean 12, 0 0, left 0")

    def test_squares_as_the_other_modules_tell_them(self):
        levels, model = [2, 3, 2], [(), (0,), (1,), (0, 1), (2,)]
        results = [4, -3, 0, 12, 999999999999, -999999999999, 7, 7, 7, 1, 2, 5]
        desk = self.desk_told(
            "things 2 3 2", "full", "model " + show_model(model), "results " + " ".join(map(str, results)),
        )
        words = [
            (name if name == "left" else show_model([name])) + " " + show_fractions([square])
            for name, square in squares(levels, full(levels), model, results)
        ]
        self.assertEqual(desk.say("squares"), ", ".join(words))

    def test_greatest_numbers(self):
        desk = self.desk_told("things 2", "plan 0; 1", "model mean", "results 999999999999 -999999999999")
        self.assertEqual(desk.say("squares"), "mean 0, left " + str(2 * 999999999999 ** 2))
        desk = self.desk_told("things 2", "plan 0", "model mean", "results 0")
        self.assertEqual(desk.say("squares"), "mean 0, left 0")

    def test_greatest_plans(self):
        desk = self.desk_told("things 2 3 5 5", "full", "model mean, 0, 1, 2, 3", "results " + " ".join(["3"] * 150))
        self.assertEqual(desk.say("squares"), "mean 1350, 0 0, 1 0, 2 0, 3 0, left 0")
        self.assert_answers(desk, ["told 3", "even 4"], ["yes", "yes"])

    def test_three_hundred_rows(self):
        desk = self.desk_told(*ALL_TOLD)
        for turn in range(48):
            self.assert_answers(desk, ASKED, ANSWERED)


class WhatIsKept(DeskCase):
    def test_things_put_plan_model_and_results_away(self):
        for row in ("things 2 3", "things 4", "things 2 3 2"):
            desk = self.desk_told(*ALL_TOLD, row)
            self.assert_refused(desk, ["results 1 -2 0 7", "even 1", "told 0", "squares"], NoThing)
            self.assertEqual(desk.say("full"), "ok")
            self.assert_refused(desk, ["told 0", "squares"], NoThing)
            self.assertEqual(desk.say("model 0"), "ok")
            self.assert_refused(desk, ["squares"], NoThing)

    def test_things_put_the_model_away_without_a_plan(self):
        desk = self.desk_told("things 2 2", "model mean, 1", "things 2 2", "full", "results 1 1 1 1")
        self.assert_refused(desk, ["told mean", "squares"], NoThing)

    def test_the_levels_are_the_last_ones_told(self):
        desk = self.desk_told("things 2 2", "things 3", "full")
        self.assertEqual(desk.say("even 1"), "yes")
        self.assert_refused(desk, ["even 2"], NoFit)
        self.assertEqual(desk.say("results 1 2 3"), "ok")
        self.assertEqual(desk.say("plan 2"), "ok")

    def test_plan_and_full_put_the_results_away(self):
        for row in ("plan 0 0; 0 1; 1 2; 1 0", "plan 1 1", "full"):
            desk = self.desk_told(*ALL_TOLD, row)
            self.assert_refused(desk, ["squares"], NoThing)
            self.assertIn(desk.say("told mean"), ("yes", "no"))

    def test_plan_and_full_keep_the_model(self):
        desk = self.desk_told(*ALL_TOLD, "full", "results 1 1 1 1 1 1")
        self.assertEqual(desk.say("squares"), "mean 6, 0 0, 1 0, left 0")
        desk = self.desk_told(*ALL_TOLD, "plan 1 1", "results 3")
        self.assertEqual(desk.say("squares"), "mean 9, 0 0, 1 0, left 0")

    def test_a_model_keeps_plan_and_results(self):
        desk = self.desk_told(*ALL_TOLD, "model mean")
        self.assertEqual(desk.say("squares"), "mean 9, left 45")
        self.assert_refused(desk, ["told 0"], NoFit)
        desk = self.desk_told(*ALL_TOLD[:2], ALL_TOLD[3], ALL_TOLD[2])
        self.assert_answers(desk, ASKED, ANSWERED)
        desk = self.desk_told(ALL_TOLD[0], ALL_TOLD[2], ALL_TOLD[1], ALL_TOLD[3])
        self.assert_answers(desk, ASKED, ANSWERED)

    def test_results_told_again(self):
        desk = self.desk_told(*ALL_TOLD, "results 0 0 0 0")
        self.assertEqual(desk.say("squares"), "mean 0, 0 0, 1 0, left 0")
        self.assertEqual(desk.say(ALL_TOLD[3]), "ok")
        self.assert_answers(desk, ASKED, ANSWERED)

    def test_asking_changes_nothing(self):
        desk = self.desk_told(*ALL_TOLD)
        self.assert_answers(desk, ASKED * 3, ANSWERED * 3)

    def test_two_desks_know_nothing_of_one_another(self):
        one, other = Desk(), Desk()
        self.assertEqual(one.say("things 2 3"), "ok")
        self.assert_refused(other, ["full", "plan 0 0", "model mean"], NoThing)
        self.assertEqual(other.say("things 2"), "ok")
        self.assertEqual(one.say("full"), "ok")
        self.assert_refused(other, ["even 1", "results 1"], NoThing)
        self.assertEqual(other.say("plan 0; 1; 1"), "ok")
        for row in ("model mean, 1", "results 1 1 1 1 1 1"):
            self.assertEqual(one.say(row), "ok")
        self.assert_refused(other, ["told mean", "squares"], NoThing)
        for row in ("model mean, 0", "results 1 2 3"):
            self.assertEqual(other.say(row), "ok")
        self.assertEqual(one.say("squares"), "mean 6, 1 0, left 0")
        self.assertEqual(other.say("squares"), "mean 12, 0 3/2, left 1/2")
        self.assert_refused(Desk(), ["squares", "even 1"], NoThing)


class Refusals(DeskCase):
    def desks(self):
        """From one that was told nothing to one that was told all."""
        return [self.desk_told(*ALL_TOLD[:count]) for count in range(len(ALL_TOLD) + 1)]

    def test_no_row(self):
        rows = [
            "", " ", "  ", "hello", "thing 2", "Things 2", "THINGS 2", "FULL", "ok", "yes", "mean", "0",
            "things,2", "full.",
            # Too many words, or too few.
            "full 1", "full ", "full full", "squares 1", "squares ", "squares  ", "even 1 2", "even 1 ", "even  1",
            "even", "even  ", "even x y", "things", "plan", "model", "results", "told",
            # A first word of no signs, and signs that are no space.
            " full", " things 2", "  even 1", "\tfull", "full\n", "\nfull", "squares\t", "even\t1", "things\t2",
            "plan\n0",
        ]
        for desk in self.desks():
            self.assert_refused(desk, rows, NoRow)

    def test_what_is_no_text_is_no_row(self):
        rows = [None, 0, 1, True, False, [], ["full"], ("things", "2"), {}, {"full": 1}, b"full", 1.5, Desk, Desk()]
        for desk in self.desks():
            self.assert_refused(desk, rows, NoRow)

    def test_words_of_no_signs_are_words(self):
        rows = [
            "things ", "things  ", "things  2", "things 2 ", "things 2  3", "results ", "results  1",
            "results 1 ", "even ",
        ]
        rows += [
            "plan ", "plan  ", "plan  0 0", "plan 0 0 ", "model ", "model  ", "model  mean", "model mean ",
            "told ",
        ]
        rows += ["told  ", "told  mean", "told mean ", "told  0", "told 0 ", "results 1  2", "plan 0  0"]
        for desk in self.desks():
            self.assert_refused(desk, rows, NoText)

    def test_no_things(self):
        rows = [
            "things 1", "things 0", "things 6", "things 7", "things 10", "things -2", "things +2", "things 02",
            "things x",
        ]
        rows += [
            "things 2 1", "things 6 2", "things 2 3 x", "things 2, 3", "things 2; 3", "things 2.", "things 2\n",
            "things 1_0",
        ]
        rows += ["things 2 2 2 2 2 2 2", "things " + " ".join(["3"] * 20), "things 2\t3", "things mean", "things 2 -3"]
        for desk in self.desks():
            self.assert_refused(desk, rows, NoText)

    def test_no_numbers(self):
        words = [
            "+1", "01", "00", "-0", "-01", "--1", "-", "+", "1000000000000", "-1000000000000", "1" * 40, "1.",
            "1e3", "0x1",
        ]
        words += ["x", "1_0", "1,", "1/2", "one", "mean", "\t1", "1\n", "1\t", "\u0661", "\u00b2", "-x"]
        for desk in self.desks():
            self.assert_refused(desk, ["even " + word for word in words], NoText)
            self.assert_refused(desk, ["results " + word for word in words], NoText)
            self.assert_refused(desk, ["results 1 -2 0 " + word for word in words], NoText)
            self.assert_refused(desk, ["results " + word + " -2 0 7" for word in words], NoText)

    def test_no_plan_model_or_effect(self):
        rows = [
            "plan 0 5", "plan 0 0;0 1", "plan 0 0; 0", "plan 0 0; ", "plan x", "plan mean", "plan 0 0, 0 1",
            "plan 00 1",
        ]
        rows += ["plan " + show_plan([(0, 0)] * 151), "plan 0 0 0 0 0 0 0", "plan -1 0", "plan plan 0 0", "plan full"]
        rows += [
            "model 6", "model 0,1", "model 1 0", "model 0 0", "model 0, 0", "model mean, mean", "model mean 0",
            "model 0, ",
        ]
        rows += ["model x", "model 0; 1", "model Mean", "model -1", "model 01", "model left"]
        rows += [
            "told 6", "told 1 0", "told 0 0", "told mean 0", "told 0, 1", "told mean, 0", "told x", "told 01",
            "told -0",
        ]
        rows += ["told Mean", "told left", "told 0,", "told 0 1 2 3 4 5 6", "told 0\t1", "told told 0"]
        for desk in self.desks():
            self.assert_refused(desk, rows, NoText)

    def test_nothing(self):
        fitting = ["plan 0 0", "full", "model mean", "results 1 -2 0 7", "even 1", "told 0", "squares"]
        unfit = [
            "plan 4", "model 5", "results 1", "results 1 1 1 1 1 1", "even 0", "even 9", "even -3", "told 5",
            "told 0 1",
        ]
        self.assert_refused(Desk(), fitting + unfit, NoThing)
        with_things = self.desk_told("things 2 3")
        self.assert_refused(with_things, fitting[3:] + unfit[2:], NoThing)
        with_model = self.desk_told("things 2 3", "model mean, 0, 1")
        self.assert_refused(with_model, fitting[3:] + unfit[2:], NoThing)
        with_plan = self.desk_told("things 2 3", "full")
        self.assert_refused(with_plan, ["told 0", "told 5", "squares"], NoThing)
        with_results = self.desk_told("things 2 3", "full", "results 1 2 3 4 5 6")
        self.assert_refused(with_results, ["told 0", "told 5", "squares"], NoThing)
        without_results = self.desk_told("things 2 3", "full", "model mean")
        self.assert_refused(without_results, ["squares"], NoThing)

    def test_no_fit(self):
        desk = self.desk_told(*ALL_TOLD)
        rows = ["plan 0", "plan 0 0 0", "plan 2 0", "plan 0 3", "plan 0 0; 1 2; 0 3", "plan 4 4; 0 0", "plan 0; 1"]
        rows += ["model 2", "model mean, 0, 5", "model 0 2", "model 1 2", "model 0 1 2", "model 3, mean"]
        rows += ["results 1 2 3", "results 1 2 3 4 5", "results 0", "results " + " ".join(["1"] * 150)]
        rows += ["even 0", "even 3", "even -1", "even -2", "even 999999999999", "even -999999999999", "even 12"]
        rows += ["told 0 1", "told 2", "told 5", "told 0 1 2 3 4 5", "told 1 2"]
        self.assert_refused(desk, rows, NoFit)
        self.assert_answers(desk, ASKED, ANSWERED)
        without_mean = self.desk_told("things 2 3", "full", "model 0, 1")
        self.assert_refused(without_mean, ["told mean"], NoFit)

    def test_a_trial_fits_each_things_own_steps(self):
        desk = self.desk_told("things 2 3 4 5")
        self.assertEqual(desk.say("plan 1 2 3 4; 0 0 0 0"), "ok")
        self.assert_refused(desk, ["plan 2 2 3 4", "plan 1 3 3 4", "plan 1 2 4 4", "plan 4 3 2 1"], NoFit)

    def test_which_refusal_comes_first(self):
        desk = Desk()
        # No row, and no such words either, and nothing there.
        self.assert_refused(desk, ["even x y", "full x", "squares ", "even 01 9"], NoRow)
        # No such words, and nothing there; also where other words would not fit.
        self.assert_refused(desk, ["plan x", "model 9", "results 01", "even 01", "told 9", "plan 4 5"], NoText)
        # Nothing there, and nothing that would fit it.
        self.assert_refused(desk, ["plan 4 4 4 4 4 4", "model 0 1 2 3 4 5", "results 1", "even 0", "told 5"], NoThing)
        desk = self.desk_told("things 2")
        self.assert_refused(desk, ["plan 3; 9", "model 5, 6", "model 5, 5", "plan 3 3; 3"], NoText)
        self.assert_refused(desk, ["plan 3", "model 5"], NoFit)
        self.assert_refused(desk, ["results 1", "even 2", "even 0", "told 5"], NoThing)
        desk = self.desk_told("things 2", "plan 0; 1")
        self.assert_refused(desk, ["results 1 01 2", "results 1 2 3 4 x", "even 00"], NoText)
        self.assert_refused(desk, ["results 1", "results 1 2 3", "even 2", "even 0"], NoFit)
        self.assert_refused(desk, ["told 5", "told mean", "squares"], NoThing)

    def test_what_is_refused_changes_nothing(self):
        refused = (
            ("", NoRow), (None, NoRow), ("full ", NoRow), ("things", NoRow), ("squares x", NoRow),
            ("things 9", NoText), ("things 2 ", NoText), ("things 2 2 2 2 2 2 2", NoText), ("things 2 3 6", NoText),
            ("plan 0 0; 0", NoText), ("plan x", NoText), ("model 9", NoText), ("model mean, mean", NoText),
            ("results 1 2 3 x", NoText), ("results 01 0 0 0", NoText), ("told x", NoText), ("even x", NoText),
            ("plan 0 0; 0 3", NoFit), ("plan 0", NoFit), ("model mean, 2", NoFit), ("model 5", NoFit),
            ("results 1 2 3", NoFit), ("results 1 2 3 4 5", NoFit), ("even 3", NoFit), ("told 0 1", NoFit),
        )
        desk = self.desk_told(*ALL_TOLD)
        for row, refusal in refused:
            self.assert_refused(desk, [row], refusal)
            self.assert_answers(desk, ASKED, ANSWERED)

    def test_what_is_refused_for_want_of_a_thing_changes_nothing(self):
        desk = Desk()
        self.assert_refused(desk, ["full", "plan 0 0", "model mean", "results 1", "squares"], NoThing)
        self.assertEqual(desk.say("things 2 3"), "ok")
        self.assert_refused(desk, ["results 1 -2 0 7", "even 1", "told mean", "squares"], NoThing)
        self.assertEqual(desk.say(ALL_TOLD[1]), "ok")
        self.assert_refused(desk, ["told mean", "squares"], NoThing)
        self.assertEqual(desk.say(ALL_TOLD[2]), "ok")
        self.assert_refused(desk, ["squares"], NoThing)
        self.assertEqual(desk.say(ALL_TOLD[3]), "ok")
        self.assert_answers(desk, ASKED, ANSWERED)


class Interface(unittest.TestCase):
    def test_arguments(self):
        self.assertEqual(list(signature(Desk).parameters), [])
        self.assertEqual(list(signature(Desk.say).parameters), ["self", "row"])


if __name__ == "__main__":
    unittest.main()
