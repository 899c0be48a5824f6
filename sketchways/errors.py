"""The errors of the package: one class for each kind of failure."""


class SketchError(ValueError):
    """What all errors of the package are; value is what was wrong."""

    def __init__(self, value):
        self.value = value


class BadCrossings(SketchError):
    """The crossings are not as a town or a sketch needs them."""


class BadStreets(SketchError):
    """The streets are not as a town or a sketch needs them."""


class NoStop(SketchError):
    """This is no stop of the town."""


class BadChoice(SketchError):
    """This is no choice."""


class BadFacts(SketchError):
    """These are not the facts that a sketch may have here."""


class BadFact(SketchError):
    """This is no fact of the sketch, or one that it cannot forget."""


class Told(SketchError):
    """The sketch has this fact already."""


class NotTold(SketchError):
    """The sketch does not have this fact."""


class OtherNet(SketchError):
    """The right one of two sketches has other crossings or streets."""


class BadNames(SketchError):
    """These are not the names of 1 to 5 crossings."""


class Undrawn(SketchError):
    """What lies between these crossings is too much for a sketch."""


class BadText(SketchError):
    """This line of a text, from 0, is not as it must be; -1 for no text."""


class TooMany(SketchError):
    """There are more of something than this limit."""


class BadState(SketchError):
    """This is no state of the directions."""


class BadView(SketchError):
    """This is no view."""


class BadFit(SketchError):
    """This is no fit of the town and the sketch."""


class BadStart(SketchError):
    """This is no stop of a told street."""


class BadGoal(SketchError):
    """This is no told crossing."""


class BadPlace(SketchError):
    """This is no place of the sketch."""


class BadFilling(SketchError):
    """This is no filling of the place."""


class BadQuestion(SketchError):
    """This is no question to the place."""


class BadKnown(SketchError):
    """This is not what can be known of the place."""


class BadWish(SketchError):
    """This is no wish."""


class BadOffers(SketchError):
    """These are not offers for the directions."""


class Finished(SketchError):
    """The tour has ended, in this way."""


class NoWay(SketchError):
    """The choice takes no end where the walker stands."""


class NothingToUndo(SketchError):
    """No order of the tour stands."""


class NothingToRedo(SketchError):
    """No undone order can be done again."""


class BadLine(SketchError):
    """The desk does not know this line."""
