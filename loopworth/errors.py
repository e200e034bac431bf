"""All errors of the package. What is told with one is kept as a copy, under the listed name."""

from loopworth.copies import copied


class LoopError(ValueError):
    """Above all errors of the package."""


# A message of its own keeps Python from holding on to the argument itself (in args).


class NoMiddle(LoopError):
    """There is no middle element; number is the number of loose ends that tells why."""

    def __init__(self, number):
        super().__init__("there is no middle")
        self.number = copied(number)


class HasMiddle(LoopError):
    """There is a middle element, so there is no bar."""


class BadHalf(LoopError):
    """What is told is no half, or belongs to none."""

    def __init__(self, told):
        super().__init__("there is no such half")
        self.told = copied(told)


class TooMany(LoopError):
    """A limit of the house would be passed."""


class BadText(LoopError):
    """A text tells nothing; place is where it fails."""

    def __init__(self, place):
        super().__init__("the text tells nothing")
        self.place = copied(place)


class BadDeed(LoopError):
    """A deed or a question is not of its form, or does not fit."""


class BadName(LoopError):
    """A name is none, or is taken."""

    def __init__(self, name):
        super().__init__("this can not be a name here")
        self.name = copied(name)


class UnknownName(LoopError):
    """Nothing stands under a name."""

    def __init__(self, name):
        super().__init__("nothing stands under this name")
        self.name = copied(name)


class NothingDone(LoopError):
    """There is nothing to take back, or to do again."""
