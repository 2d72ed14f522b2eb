"""Texts: plans and models read of texts and shown as such, and fractions shown."""

from trialfield.errors import NoText

FIGURES = "0123456789"
MOST_FIGURES = 12
MOST_STEP = 4
MOST_THINGS = 6
MOST_TRIALS = 150


# Python's own reading of numbers lets through far more than is told here: spaces, a plus, noughts
# ahead, strokes between figures.
def is_number(word):
    figures = word[1:] if word.startswith("-") else word
    if figures == "" or len(figures) > MOST_FIGURES or not all([sign in FIGURES for sign in figures]):
        return False
    return word == "0" or not figures.startswith("0")


def read_number(word):
    if not is_number(word):
        raise NoText("this is no whole number in the form told")
    return int(word)


def read_numbers(words, least, most):
    numbers = [read_number(word) for word in words]
    if min(numbers) < least or max(numbers) > most:
        raise NoText(f"a number is not from {least} to {most}")
    return numbers


def parts_of(text, separator):
    if not isinstance(text, str):
        raise NoText("this is no text")
    return text.split(separator)


def read_trial(text):
    return tuple(read_numbers(text.split(" "), 0, MOST_STEP))


def read_plan(text):
    plan = [read_trial(part) for part in parts_of(text, "; ")]
    if len(plan) > MOST_TRIALS:
        raise NoText("too many trials")
    if len(plan[0]) > MOST_THINGS or any([len(trial) != len(plan[0]) for trial in plan]):
        raise NoText("trials of too many steps, or of unlike many")
    return plan


def read_effect(text):
    if text == "mean":
        return ()
    effect = read_numbers(text.split(" "), 0, MOST_THINGS - 1)
    if effect != sorted(set(effect)):
        raise NoText("the numbers of things do not rise")
    return tuple(effect)


def read_model(text):
    model = [read_effect(part) for part in parts_of(text, ", ")]
    if len(set(model)) < len(model):
        raise NoText("an effect comes twice")
    return model


def show_numbers(numbers):
    return " ".join([str(number) for number in numbers])


def show_plan(plan):
    return "; ".join([show_numbers(trial) for trial in plan])


def show_effect(effect):
    return show_numbers(effect) if effect else "mean"


def show_model(model):
    return ", ".join([show_effect(effect) for effect in model])


def show_fraction(number):
    top = number[0]
    bottom = number[1]
    return str(top) if bottom == 1 else f"{top}/{bottom}"


def show_fractions(numbers):
    return " ".join([show_fraction(number) for number in numbers])
