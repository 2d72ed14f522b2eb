"""The refusals of the program: each is a TrialError, and none of the five stands under another."""


class TrialError(ValueError):
    pass


class NoEffect(TrialError):
    pass


class NoText(TrialError):
    pass


class NoRow(TrialError):
    pass


class NoThing(TrialError):
    pass


class NoFit(TrialError):
    pass
