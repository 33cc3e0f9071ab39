"""The errors of the program: the attribute `at` of each one tells where it is."""


def _wording(name, at):
    # Python refuses to write integers of some thousand digits in decimals.
    if at.bit_length() > 1000:
        return f"{name} at a number of {at.bit_length()} bits"
    return f"{name} at {at}"


class ModelError(ValueError):
    """The base class of all errors of the program."""

    def __init__(self, at):
        ValueError.__init__(self, _wording(self.__class__.__name__, at))
        self.at = at


class NoQuantity(ModelError):
    """There is no quantity with this number or name."""


class NoLaw(ModelError):
    """There is no law with this number."""


class NotASet(ModelError):
    """A list is not an ascending list of different quantities."""


class NotExact(ModelError):
    """A law or a row is sized where an exact one is needed."""


class WrongSize(ModelError):
    """A list or a table does not have the size that is needed."""


class NotGreatest(ModelError):
    """What is passed in is not an assignment of the greatest size."""


class NotFull(ModelError):
    """A model or a grid does not have the number of its laws as its rank."""


class Loose(ModelError):
    """A quantity is loose where a tied one is needed."""


class Tied(ModelError):
    """A quantity is tied where a loose one is needed."""


class Rests(ModelError):
    """A quantity does not hang on a law."""


class Hangs(ModelError):
    """A quantity hangs on a law."""


class BadWish(ModelError):
    """A wish is none, or stands twice."""


class BadOrder(ModelError):
    """A list is not an order of all laws."""


class NotSquare(ModelError):
    """A model does not have as many laws as quantities."""


class TooLarge(ModelError):
    """A model or a grid is larger than a function takes."""


class NotMarks(ModelError):
    """Two lists are not marks of a grid."""


class NotAPaper(ModelError):
    """A paper is not accepted by its check."""


class NotAChoice(ModelError):
    """A list is not a choice."""


class OutOfRange(ModelError):
    """A number is beyond its bounds."""


class NoSize(ModelError):
    """A name is no size of the model."""


class BadSize(ModelError):
    """A fraction is not as it has to be."""


class NoRatio(ModelError):
    """A fraction would have the denominator 0."""


class TooMany(ModelError):
    """There is more of something than there may be."""


class BadName(ModelError):
    """A text is no name."""


class TakenName(ModelError):
    """A name is taken."""


class NoPart(ModelError):
    """There is no part with this name."""


class NoName(ModelError):
    """A quantity or a port text does not exist."""


class SamePlace(ModelError):
    """A place or a port text stands twice."""


class BadLine(ModelError):
    """A line is not written as it has to be."""


class Needed(ModelError):
    """A law still needs what would be taken out."""


class NotModel(ModelError):
    """A pair is not a model."""


class Refused(ModelError):
    """A promise would not hold."""


class NothingToUndo(ModelError):
    """There is nothing to take back."""


class NoPromise(ModelError):
    """There is no promise with this index."""
