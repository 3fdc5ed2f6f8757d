"""The errors of the package."""


class SilentError(ValueError):
    """What every error of the package is."""


class NoInputs(SilentError):
    """What was passed is none of the task's inputs."""


class NoRow(SilentError):
    """What was passed is no row, or none of those that it is looked for among."""


class NoMachine(SilentError):
    """What was passed is the number of none of the machines."""


class NoRest(SilentError):
    """What was passed is no rest, or none of the task's."""


class NoNumber(SilentError):
    """What was passed is no integer, or none within its bounds."""


class NoLot(SilentError):
    """What was passed is no lot of what is asked for."""


class NoChoice(SilentError):
    """What was passed is no choice for the task."""


class NoPlan(SilentError):
    """What was passed is no plan for the task."""


class HasPlan(SilentError):
    """The task has a plan, where one without is asked for."""


class NoBar(SilentError):
    """What was passed is no bar for the task."""


class NoPattern(SilentError):
    """What was passed is no pattern of so many machines and rounds."""


class OtherMany(SilentError):
    """The two tasks are not of as many machines."""


class NoSome(SilentError):
    """What was passed is no lot of some of the task's inputs."""


class NoOffers(SilentError):
    """What was passed is no lot of offers for the task."""


class NoWord(SilentError):
    """What was passed is the word of no family."""


class NoEvent(SilentError):
    """What was passed is no event of the net as it is."""


class NothingDone(SilentError):
    """There is nothing left to take back."""


class NoLine(SilentError):
    """What was passed is no line that a desk knows."""


class Empty(SilentError):
    """The draft has no inputs."""


class NoText(SilentError):
    """What was passed is no string."""


class BadTask(SilentError):
    """No task is made of what was passed; part tells what is wrong in it."""

    def __init__(self, part):
        self.part = part


class NoFunction(SilentError):
    """What was passed with this index cannot be a function."""

    def __init__(self, index):
        self.index = index


class BadEvent(SilentError):
    """What the stranger told at this index is no event of the net."""

    def __init__(self, index):
        self.index = index


class TooMany(SilentError):
    """There are more of them than this."""

    def __init__(self, most):
        self.most = most


class BadText(SilentError):
    """The text is wrong in this line."""

    def __init__(self, line):
        self.line = line


class NoName(SilentError):
    """No draft has this name."""

    def __init__(self, name):
        self.name = name
