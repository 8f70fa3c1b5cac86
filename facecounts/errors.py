"""The refusals: one class for each, all straight under FaceError."""


class FaceError(ValueError):
    """Any refusal."""


class NoNet(FaceError):
    """A net was due."""


class NoFace(FaceError):
    """A face of the net was due."""


class NoPoint(FaceError):
    """A point of the net was due."""


class NotApart(FaceError):
    """Two nets without a common point were due."""


class TooMany(FaceError):
    """What was asked for would be greater than it may be."""


class NoText(FaceError):
    """A net as it is written was due."""


class NoRow(FaceError):
    """A row was due."""


class NoNumber(FaceError):
    """A whole number within its bounds was due."""


class NotLevel(FaceError):
    """A level net was due."""


class NoCrowd(FaceError):
    """A crowd was due."""


class NoWay(FaceError):
    """Nothing has such a row."""


class NotClosed(FaceError):
    """A closed net was due."""


class NoSwap(FaceError):
    """A swap of the net was due."""


class NoPlaces(FaceError):
    """A tuple of places of sides was due."""


class NoDeed(FaceError):
    """There is no deed to undo."""


class NoLine(FaceError):
    """A row that the desk knows was due."""
