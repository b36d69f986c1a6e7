"""The errors of the package, one class for each kind of failure."""


class GaugeError(ValueError):
    """What all errors of the package are."""


class InvalidCount(GaugeError):
    """The number of gauges is no integer from 1 to 5."""


class InvalidGauge(GaugeError):
    """A gauge is none, or is not another one where another one is asked for."""


class InvalidWay(GaugeError):
    """A way is neither "least" nor "most"."""


class InvalidNumber(GaugeError):
    """A number is no integer."""


class InvalidBound(GaugeError):
    """A bound, or one of several, is none."""


class InvalidRule(GaugeError):
    """A rule is none."""


class InvalidBook(GaugeError):
    """A book is no tuple of rules."""


class InvalidReadings(GaugeError):
    """Readings, or a part of some, are none."""


class InvalidChoice(GaugeError):
    """Chosen gauges, or seen readings, are none that can be chosen."""


class InvalidMove(GaugeError):
    """A move is no tuple of integers, one for each gauge."""


class Unkeepable(GaugeError):
    """No readings keep the book."""


class NothingToUndo(GaugeError):
    """There is no deed that could be taken back."""


class NoBlock(GaugeError):
    """No block has begun that could be ended."""


class InvalidCommand(GaugeError):
    """A command is none that the console knows."""


class Contradicted(GaugeError):
    """What is told would leave no readings; blamed are the indexes of the bounds that it is due to."""

    def __init__(self, blamed):
        super().__init__("what is told leaves no readings")
        self.blamed = blamed


class InvalidWords(GaugeError):
    """A text cannot be read; place is the number of the word that cannot stand."""

    def __init__(self, place):
        super().__init__("a word cannot stand where it stands, or words are missing")
        self.place = place
