"""Point [27]: many rows to the desk, against a desk written another way."""

import re
import unittest
from random import Random

from helper import any_plan, full, plain_fitted_square, plain_rank, plain_table, plainly_even_to
from trialfield.desk import Desk
from trialfield.errors import NoFit, NoRow, NoText, NoThing, TrialError

NUMBER = r"(?:0|-?[1-9][0-9]{0,11})"
ROW = re.compile(r"full|squares|even [^ ]*|(?:things|plan|model|results|told) .*", re.DOTALL)
THINGS = re.compile(r"[2-5](?: [2-5]){0,5}")
TRIALS = re.compile(r"[0-4](?: [0-4]){0,5}(?:; [0-4](?: [0-4]){0,5}){0,149}")
EFFECT = re.compile(r"mean|[0-5](?: [0-5])*")
NUMBERS = re.compile(NUMBER + "(?: " + NUMBER + ")*")


def split_numbers(text):
    return tuple(int(word) for word in text.split(" "))


def plain_effect(text):
    """The effect, or None."""
    if not EFFECT.fullmatch(text):
        return None
    effect = () if text == "mean" else split_numbers(text)
    return effect if all(one < other for one, other in zip(effect, effect[1:])) else None


def plain_model(text):
    model = [plain_effect(part) for part in text.split(", ")]
    return model if None not in model and len(set(model)) == len(model) else None


def plain_plan(text):
    if not TRIALS.fullmatch(text):
        return None
    plan = [split_numbers(part) for part in text.split("; ")]
    return plan if len({len(trial) for trial in plan}) == 1 else None


def what_is_read(first, text):
    """What the row's words tell, or None where they tell nothing."""
    if first in ("full", "squares"):
        return ()
    if first == "things":
        return list(split_numbers(text)) if THINGS.fullmatch(text) else None
    if first in ("results", "even"):
        return list(split_numbers(text)) if NUMBERS.fullmatch(text) else None
    return {"plan": plain_plan, "model": plain_model, "told": plain_effect}[first](text)


WANTED = {
    "things": (),
    "plan": ("things",),
    "full": ("things",),
    "model": ("things",),
    "results": ("plan",),
    "even": ("plan",),
    "told": ("plan", "model"),
    "squares": ("things", "plan", "model", "results"),
}


class PlainDesk:
    """The same desk, written another way: what it would answer, or the class it would refuse with."""

    def __init__(self):
        self.kept = {}

    def say(self, row):
        if not isinstance(row, str) or not ROW.fullmatch(row):
            return NoRow
        first, gap, text = row.partition(" ")
        read = what_is_read(first, text)
        if read is None:
            return NoText
        if any(name not in self.kept for name in WANTED[first]):
            return NoThing
        if not self.fits(first, read):
            return NoFit
        return getattr(self, first)(read)

    def fits(self, first, read):
        levels = self.kept.get("things", [])
        if first == "plan":
            return all(len(t) == len(levels) and all(a < b for a, b in zip(t, levels)) for t in read)
        if first == "model":
            return all(thing < len(levels) for effect in read for thing in effect)
        if first == "results":
            return len(read) == len(self.kept["plan"])
        if first == "even":
            return 1 <= read[0] <= len(levels)
        return first != "told" or read in self.kept["model"]

    def things(self, read):
        self.kept = {"things": read}
        return "ok"

    def plan(self, read):
        self.kept["plan"] = read
        self.kept.pop("results", None)
        return "ok"

    def full(self, read):
        return self.plan(full(self.kept["things"]))

    def model(self, read):
        self.kept["model"] = read
        return "ok"

    def results(self, read):
        self.kept["results"] = read
        return "ok"

    def even(self, read):
        return "yes" if plainly_even_to(self.kept["plan"], self.kept["things"], read[0]) else "no"

    def told(self, read):
        """All of the effect's worths are told just where without its columns the rank is so much less."""
        levels, plan, model = [self.kept[name] for name in ("things", "plan", "model")]
        rows = plain_table(levels, plan, model)
        own = plain_table(levels, plan, [read])
        others = plain_table(levels, plan, [effect for effect in model if effect != read] or [()])
        rest = plain_rank(others) if len(model) > 1 else 0
        return "yes" if plain_rank(rows) == rest + len(own[0]) else "no"

    def squares(self, read):
        levels, plan, model, results = [self.kept[name] for name in ("things", "plan", "model", "results")]
        reached = [plain_fitted_square(levels, plan, model[:count], results) for count in range(len(model) + 1)]
        names = [" ".join(map(str, effect)) if effect else "mean" for effect in model] + ["left"]
        shares = [one - other for one, other in zip(reached[1:], reached)]
        shares.append(sum(number ** 2 for number in results) - reached[-1])
        return ", ".join(name + " " + str(share) for name, share in zip(names, shares))


FIRST_WORDS = tuple(WANTED)
EFFECTS = ("mean", "0", "1", "2", "0 1", "0 2", "1 2", "0 1 2", "3", "2 5", "5")
ODD_WORDS = (
    "", "-", "+1", "01", "00", "-0", "-1", "0", "1", "2", "3", "4", "5", "6", "10", "999999999999", "-999999999999",
    "1000000000000", "mean", "mean,", "0,", "0;", "x", "1.", "1/2", "even", "left", "\t", "2\n", "1_0",
)
ODD_ROWS = (
    "", " ", "  ", "full ", " full", "squares ", " squares", "full full", "FULL", "even", "even 1 ", "even  1",
    "even 1 1", "things", "plan", "model", "results", "told", "things ", "plan ", "model ", "results ", "told ",
    "even ", "fullx", "thing 2", "ok", "full\n", "squares\n", "things\t2", None, 7, True, False, [], ["full"],
    ("full",), {}, b"full",
)


def any_levels(random):
    return [random.choice([2, 2, 3, 4, 5]) for thing in range(random.choice([1, 2, 2, 2, 3]))]


def shown(lists, parted):
    return parted.join(" ".join(map(str, numbers)) if numbers else "mean" for numbers in lists)


def fitting_row(random, first, kept):
    """A row that fits what is kept, but for now and then."""
    levels = kept.get("things", [2, 3])
    if first == "things":
        return "things " + " ".join(map(str, any_levels(random)))
    if first == "plan":
        steps = [min(steps + (random.random() < 0.05), 5) for steps in levels]
        return "plan " + shown(any_plan(random, steps, random.choice([1, 2, 4, 6, 9])), "; ")
    if first == "model":
        return "model " + ", ".join(random.sample(EFFECTS[:4 + 3 * (len(levels) > 2)], random.choice([1, 2, 3])))
    if first == "results":
        count = len(kept.get("plan", [0])) + (random.random() < 0.1)
        return "results " + " ".join(str(random.randint(-9, 9)) for result in range(count))
    if first == "even":
        return "even " + str(random.randint(0, len(levels) + 1))
    if first == "told":
        return "told " + (shown([random.choice(kept["model"])], "") if "model" in kept else random.choice(EFFECTS))
    return first


def odd_row(random, first):
    words = [random.choice(ODD_WORDS) for word in range(random.choice([0, 1, 1, 1, 2, 3, 7]))]
    return " ".join([first] + words)


def any_row(random, kept):
    turn = random.random()
    if turn < 0.05:
        return random.choice(ODD_ROWS)
    first = random.choice(FIRST_WORDS + ("plan", "results", "squares", "told", "model"))
    if turn < 0.2:
        return odd_row(random, first)
    return fitting_row(random, first, kept)


def answer_of(desk, row):
    try:
        return desk.say(row)
    except TrialError as refusal:
        return type(refusal)


class ManyRows(unittest.TestCase):
    def test_against_the_other_desk(self):
        random = Random(27)
        seen = {}
        for turn in range(150):
            desk, plain = Desk(), PlainDesk()
            for count in range(300 if turn == 0 else 60):
                row = any_row(random, plain.kept)
                answer = answer_of(desk, row)
                self.assertEqual(answer, plain.say(row), repr(row))
                first = row.split(" ")[0] if isinstance(row, str) else None
                seen[(first, answer)] = seen.get((first, answer), 0) + 1
        for first in WANTED:
            self.assertIn((first, NoRow), seen)
            if WANTED[first]:
                self.assertGreater(seen[(first, NoThing)], 5)
        for first in ("things", "plan", "full", "model", "results"):
            self.assertGreater(seen[(first, "ok")], 50)
        for first in ("even", "told"):
            self.assertGreater(seen[(first, "yes")], 20)
            self.assertGreater(seen[(first, "no")], 20)
        for first in ("plan", "model", "results", "even", "told"):
            self.assertGreater(seen[(first, NoFit)], 5)
            self.assertGreater(seen[(first, NoText)], 5)
        self.assertGreater(len([first for first, answer in seen if first == "squares"]), 50)

    def test_odd_words_behind_each_first_word_on_desks_with_more_and_more_told(self):
        told = ("things 2 3", "plan 0 0; 1 2; 0 1", "model mean, 0, 1", "results 3 0 -4")
        rows = list(ODD_ROWS) + list(FIRST_WORDS)
        rows += [first + " " + word for first in FIRST_WORDS for word in ODD_WORDS + EFFECTS]
        rows += [
            first + " " + one + " " + other for first in FIRST_WORDS for one in ODD_WORDS for other in ("1", "", "x")
        ]
        for count in range(len(told) + 1):
            for row in rows:
                desk, plain = Desk(), PlainDesk()
                for earlier in told[:count]:
                    self.assertEqual((desk.say(earlier), plain.say(earlier)), ("ok", "ok"))
                self.assertEqual(answer_of(desk, row), plain.say(row), (count, row))


if __name__ == "__main__":
    unittest.main()
