"""All refusals of the package.

A refusal keeps the very things it is made of and looks at none of them: its message never shows them.
"""


class BendError(ValueError):
    """Any refusal."""


class NoText(BendError):
    """A text that is no written FRACTION; at is the place of the fault."""

    def __init__(self, at):
        super().__init__("this text is no fraction")
        self.at = at


class NoPlace(BendError):
    """A place that is not where it has to be."""

    def __init__(self, place):
        super().__init__("this place is outside")
        self.place = place


class NoCut(BendError):
    """No such inner cut, or none that can be left out."""

    def __init__(self, number):
        super().__init__("there is no such cut")
        self.number = number


class NoSmooth(BendError):
    """Slopes are unlike at the inner cut of this number."""

    def __init__(self, number):
        super().__init__("the slopes are unlike at a cut")
        self.number = number


class NoTask(BendError):
    """No right task, or none of the asked sort."""

    def __init__(self, word, number):
        super().__init__("this is no such task")
        self.word = word
        self.number = number


class NoPaper(BendError):
    """A paper that is not let by."""

    def __init__(self, word, number):
        super().__init__("this paper is not let by")
        self.word = word
        self.number = number


class NoKnots(BendError):
    """No KNOTS, or none that fit."""

    def __init__(self, word, number):
        super().__init__("these are no such knots")
        self.word = word
        self.number = number


class NoShares(BendError):
    """Not as many shares as hills; number is how many are due."""

    def __init__(self, number):
        super().__init__("the number of shares is wrong")
        self.number = number


class NoKnot(BendError):
    """No knot or hill of this number."""

    def __init__(self, number):
        super().__init__("there is no such knot")
        self.number = number


class NoSheet(BendError):
    """Things that make no sheet."""

    def __init__(self, word, number):
        super().__init__("these make no sheet")
        self.word = word
        self.number = number


class NoPoint(BendError):
    """No point stands there."""

    def __init__(self, place):
        super().__init__("there is no such point")
        self.place = place


class Twice(BendError):
    """A point stands there already."""

    def __init__(self, place):
        super().__init__("a point stands there already")
        self.place = place


class NoOver(BendError):
    """Something was to be divided by nought."""


class NoStretch(BendError):
    """Two rows have no stretch in common as asked."""


class NoOne(BendError):
    """There is not just one answer."""
