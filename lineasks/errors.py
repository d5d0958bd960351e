"""All refusals of the package."""


class LineError(ValueError):
    """Any refusal."""


class NoFrame(LineError):
    """What should be a frame, or make one, does not."""


class NoAsk(LineError):
    """What should be an ask or an answer, or make one, does not."""


class NoStation(LineError):
    """There can be no such station."""


class NoNumber(LineError):
    """A number, or what is made of numbers, is not as told."""


class NoPlace(LineError):
    """A station has not all the places that were asked for."""


class Fixed(LineError):
    """A place must not be written."""


class NoAnswer(LineError):
    """No answer came."""


class NoText(LineError):
    """A text is the writing of nothing."""


class Full(LineError):
    """Nothing more can come."""


class NoName(LineError):
    """A name is none, or is not there."""


class Taken(LineError):
    """A name or a place is taken."""


class NoBack(LineError):
    """There is no step to take back, or to do again."""
