"""The errors of the whole package: each stands under RoadError alone and keeps what it is made with."""


class RoadError(ValueError):
    """What is asked for can't be done as it was asked."""


class InvalidFraction(RoadError):
    """What was passed is no fraction."""

    def __init__(self, given):
        super().__init__("what was passed is no fraction")
        self.given = given


class InvalidAmount(RoadError):
    """What was passed is no amount."""

    def __init__(self, given):
        super().__init__("what was passed is no amount")
        self.given = given


class InvalidContent(RoadError):
    """What was passed is no content."""

    def __init__(self, given):
        super().__init__("what was passed is no content")
        self.given = given


class InvalidNumber(RoadError):
    """What was passed is no number that may stand there."""

    def __init__(self, given):
        super().__init__("what was passed is no number that may stand there")
        self.given = given


class InvalidIndex(RoadError):
    """What was passed is no index that may stand there."""

    def __init__(self, given):
        super().__init__("what was passed is no index that may stand there")
        self.given = given


class InvalidKind(RoadError):
    """What was passed is no kind of road."""

    def __init__(self, given):
        super().__init__("what was passed is no kind of road")
        self.given = given


class InvalidDensity(RoadError):
    """What was passed is no density of the kind."""

    def __init__(self, given):
        super().__init__("what was passed is no density of the kind")
        self.given = given


class InvalidFlow(RoadError):
    """What was passed is no flow."""

    def __init__(self, given):
        super().__init__("what was passed is no flow")
        self.given = given


class InvalidPlace(RoadError):
    """What was passed is no place of the road."""

    def __init__(self, given):
        super().__init__("what was passed is no place of the road")
        self.given = given


class InvalidMoment(RoadError):
    """What was passed is no moment that may stand there."""

    def __init__(self, given):
        super().__init__("what was passed is no moment that may stand there")
        self.given = given


class InvalidSpeed(RoadError):
    """What was passed is no speed that may stand there."""

    def __init__(self, given):
        super().__init__("what was passed is no speed that may stand there")
        self.given = given


class InvalidWay(RoadError):
    """What was passed is no way of the scene."""

    def __init__(self, given):
        super().__init__("what was passed is no way of the scene")
        self.given = given


class InvalidScene(RoadError):
    """What was passed is no scene."""

    def __init__(self, given):
        super().__init__("what was passed is no scene")
        self.given = given


class InvalidCounts(RoadError):
    """What was passed is no counts."""

    def __init__(self, given):
        super().__init__("what was passed is no counts")
        self.given = given


class InvalidRims(RoadError):
    """What was passed is no rims."""

    def __init__(self, given):
        super().__init__("what was passed is no rims")
        self.given = given


class InvalidBook(RoadError):
    """What was passed is no book."""

    def __init__(self, given):
        super().__init__("what was passed is no book")
        self.given = given


class InvalidName(RoadError):
    """What was passed is no name that may stand there."""

    def __init__(self, given):
        super().__init__("what was passed is no name that may stand there")
        self.given = given


class InvalidWish(RoadError):
    """What was passed is no wish."""

    def __init__(self, given):
        super().__init__("what was passed is no wish")
        self.given = given


class InvalidPhrase(RoadError):
    """What was said is no phrase of the console."""

    def __init__(self, given):
        super().__init__("what was said is no phrase of the console")
        self.given = given


class NotAWorkshop(RoadError):
    """What was passed is no workshop."""

    def __init__(self, given):
        super().__init__("what was passed is no workshop")
        self.given = given


class UnknownName(RoadError):
    """No scene stands under this name."""

    def __init__(self, given):
        super().__init__("no scene stands under this name")
        self.given = given


class TooMany(RoadError):
    """What was asked for would have more parts than are let."""

    def __init__(self, given):
        super().__init__("what was asked for would have more parts than are let")
        self.given = given


class InvalidBeginning(RoadError):
    """The beginning has a wrong piece, or is none at all."""

    def __init__(self, index):
        super().__init__("the beginning has a wrong piece, or is none at all")
        self.index = index


class InvalidComings(RoadError):
    """The comings have a wrong piece, or are none at all."""

    def __init__(self, index):
        super().__init__("the comings have a wrong piece, or are none at all")
        self.index = index


class InvalidBars(RoadError):
    """The bars have a wrong one, or are none at all."""

    def __init__(self, index):
        super().__init__("the bars have a wrong one, or are none at all")
        self.index = index


class InvalidRow(RoadError):
    """The row has a wrong element, or is none at all."""

    def __init__(self, index):
        super().__init__("the row has a wrong element, or is none at all")
        self.index = index


class InvalidMarks(RoadError):
    """The marks have a wrong pair, or are none at all."""

    def __init__(self, index):
        super().__init__("the marks have a wrong pair, or are none at all")
        self.index = index


class InUse(RoadError):
    """A wish names this scene."""

    def __init__(self, index):
        super().__init__("a wish names this scene")
        self.index = index


class Broken(RoadError):
    """A wish would not hold then."""

    def __init__(self, index):
        super().__init__("a wish would not hold then")
        self.index = index


class NoStep(RoadError):
    """The kind lets no such step."""


class NoneFits(RoadError):
    """No numbers fit, or the rims can't be."""


class NothingToUndo(RoadError):
    """There is no change that could be taken back."""
