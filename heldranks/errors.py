"""The errors of the package."""


class HeldError(ValueError):
    """Something that was passed is not valid."""


class InvalidValue(HeldError):
    """A value is no VALUE."""

    def __init__(self, value):
        self.value = value


class InvalidInteger(HeldError):
    """A value is no INTEGER."""

    def __init__(self, value):
        self.value = value


class InvalidCount(HeldError):
    """A value is no COUNT, or none that is allowed here."""

    def __init__(self, value):
        self.value = value


class InvalidName(HeldError):
    """A value is no NAME."""

    def __init__(self, value):
        self.value = value


class InvalidPlace(HeldError):
    """A value is not the name of a place."""

    def __init__(self, value):
        self.value = value


class InvalidEnd(HeldError):
    """A value is no END."""

    def __init__(self, value):
        self.value = value


class InvalidTerm(HeldError):
    """A value is no Term; None if there are too few parts."""

    def __init__(self, value):
        self.value = value


class InvalidTerms(HeldError):
    """A value is no list, or no dict, of Terms."""

    def __init__(self, value):
        self.value = value


class InvalidForm(HeldError):
    """A value is not the form of a Term."""

    def __init__(self, value):
        self.value = value


class InvalidValues(HeldError):
    """A value is no collection of VALUES as it is needed here."""

    def __init__(self, value):
        self.value = value


class InvalidRows(HeldError):
    """A value is no dict of Rows."""

    def __init__(self, value):
        self.value = value


class WrongRow(HeldError):
    """The row of a tuple (mode, letter) is missing or does not fit its machine."""

    def __init__(self, value):
        self.value = value


class InvalidMachine(HeldError):
    """A value is no Machine."""

    def __init__(self, value):
        self.value = value


class InvalidHistory(HeldError):
    """A history has a wrong tick at a position; None if it is no list."""

    def __init__(self, position):
        self.position = position


class InvalidEnds(HeldError):
    """A value is no collection of ENDS as it is needed here."""

    def __init__(self, value):
        self.value = value


class InvalidEndState(HeldError):
    """A value is no end state of a machine."""

    def __init__(self, value):
        self.value = value


class InvalidChart(HeldError):
    """A value is no Chart."""

    def __init__(self, value):
        self.value = value


class InvalidClass(HeldError):
    """A value is no class."""

    def __init__(self, value):
        self.value = value


class InvalidSteps(HeldError):
    """A value is no list of steps, or none of its dicts."""

    def __init__(self, value):
        self.value = value


class InvalidTable(HeldError):
    """A value is no Table."""

    def __init__(self, value):
        self.value = value


class InvalidPrices(HeldError):
    """A value is no prices, or none that fit."""

    def __init__(self, value):
        self.value = value


class InvalidNest(HeldError):
    """A nest has a wrong element; None if it is no nest at all."""

    def __init__(self, position):
        self.position = position


class InvalidText(HeldError):
    """A text has a wrong line; None if it is no text."""

    def __init__(self, line):
        self.line = line


class InvalidClaim(HeldError):
    """A value is no claim."""

    def __init__(self, value):
        self.value = value


class InvalidCommand(HeldError):
    """A value is no command."""

    def __init__(self, value):
        self.value = value


class OtherShape(HeldError):
    """Two machines have not the shapes that are needed."""


class NotRising(HeldError):
    """A table is not rising."""


class TooMany(HeldError):
    """There are more of a kind than the limit."""

    def __init__(self, kind, limit):
        self.kind = kind
        self.limit = limit


class MissingError(LookupError):
    """Something that was asked for is not there."""


class UnknownMode(MissingError):
    """A value is no mode of a machine."""

    def __init__(self, value):
        self.value = value


class UnknownLetter(MissingError):
    """A value is no letter."""

    def __init__(self, value):
        self.value = value


class UnknownName(MissingError):
    """A value is no name of the kind that is needed."""

    def __init__(self, value):
        self.value = value


class StateError(RuntimeError):
    """Something cannot be done as things stand."""


class NothingToUndo(StateError):
    """Nothing was done that can be taken back."""


class NameTaken(StateError):
    """A name is in use."""

    def __init__(self, value):
        self.value = value
