"""The desk: it is told rows of text, keeps what they set, and answers what they ask."""

from trialfield.errors import NoFit, NoRow, NoText, NoThing
from trialfield.fits import squares
from trialfield.models import columns_of, table_of
from trialfield.plans import all_trials, even_to
from trialfield.telling import telling
from trialfield.texts import (
    MOST_THINGS, read_effect, read_model, read_number, read_numbers, read_plan, show_effect, show_fraction,
)

LEAST_STEPS = 2
MOST_STEPS = 5
WITHOUT_WORDS = ("full", "squares")
WITH_ONE_WORD = ("even",)
WITH_WORDS = ("things", "plan", "model", "results", "told")


def is_row(first, following):
    if first in WITHOUT_WORDS:
        return following == 0
    if first in WITH_ONE_WORD:
        return following == 1
    return first in WITH_WORDS and following > 0


def words_of(row):
    if not isinstance(row, str):
        raise NoRow("this is no text")
    words = row.split(" ")
    if not is_row(words[0], len(words) - 1):
        raise NoRow("the desk knows no such row")
    return words


def read_levels(words):
    if len(words) > MOST_THINGS:
        raise NoText("too many things")
    return read_numbers(words, LEAST_STEPS, MOST_STEPS)


def want(kept, name):
    if kept is None:
        raise NoThing(f"{name} must be told first")


def trial_fits(trial, levels):
    return len(trial) == len(levels) and all([step < steps for step, steps in zip(trial, levels)])


def effect_fits(effect, levels):
    return all([thing < len(levels) for thing in effect])


# For each column of the effect the combination that has 1 there and 0 else.
def single_columns(columns, effect):
    return [[1 if other == column else 0 for other in columns] for column in columns if column[0] == effect]


def yes_or_no(truth):
    return "yes" if truth else "no"


def show_square(part):
    name = part[0] if part[0] == "left" else show_effect(part[0])
    return name + " " + show_fraction(part[1])


# What is wrong in itself is refused ahead of what lacks, and this ahead of what does not fit; and
# all of it ahead of any change, so that what is refused changes nothing.
class Desk:
    def __init__(self):
        self.levels = None
        self.plan = None
        self.model = None
        self.results = None

    def say(self, row):
        words = words_of(row)
        first = words[0]
        following = words[1:]
        # Joined again, the words are all that follows, as it stands.
        text = " ".join(following)
        if first == "things":
            return self.set_things(following)
        if first == "plan":
            return self.set_plan(text)
        if first == "full":
            return self.set_full()
        if first == "model":
            return self.set_model(text)
        if first == "results":
            return self.set_results(following)
        if first == "even":
            return self.ask_even(text)
        if first == "told":
            return self.ask_told(text)
        return self.ask_squares()

    def set_things(self, words):
        self.levels = read_levels(words)
        self.plan = None
        self.model = None
        self.results = None
        return "ok"

    def set_plan(self, text):
        plan = read_plan(text)
        want(self.levels, "things")
        if not all([trial_fits(trial, self.levels) for trial in plan]):
            raise NoFit("a trial does not fit the things")
        return self.keep_plan(plan)

    def set_full(self):
        want(self.levels, "things")
        return self.keep_plan(all_trials(self.levels))

    # Results belong to the trials of the plan they were told for.
    def keep_plan(self, plan):
        self.plan = plan
        self.results = None
        return "ok"

    def set_model(self, text):
        model = read_model(text)
        want(self.levels, "things")
        if not all([effect_fits(effect, self.levels) for effect in model]):
            raise NoFit("an effect does not fit the things")
        self.model = model
        return "ok"

    def set_results(self, words):
        results = [read_number(word) for word in words]
        want(self.plan, "a plan")
        if len(results) != len(self.plan):
            raise NoFit("there are not as many results as trials")
        self.results = results
        return "ok"

    def ask_even(self, word):
        t = read_number(word)
        want(self.plan, "a plan")
        if t < 1 or t > len(self.levels):
            raise NoFit("there are not so many things")
        return yes_or_no(even_to(self.plan, self.levels, t) == ("even",))

    def ask_told(self, text):
        effect = read_effect(text)
        want(self.plan, "a plan")
        want(self.model, "a model")
        if effect not in self.model:
            raise NoFit("the model does not have this effect")
        rows = table_of(self.levels, self.plan, self.model)
        combinations = single_columns(columns_of(self.levels, self.model), effect)
        return yes_or_no(all([telling(rows, combination)[0] == "told" for combination in combinations]))

    def ask_squares(self):
        want(self.levels, "things")
        want(self.plan, "a plan")
        want(self.model, "a model")
        want(self.results, "results")
        apart = squares(self.levels, self.plan, self.model, self.results)
        return ", ".join([show_square(part) for part in apart])
